/- A piece of a row of pieces: its head, its tail; a slice's piece as a fact says. No condition of its own. -/
import Derived.Test.YtckgpocfcanokaaPcRow
namespace Go.Proofs.Ytckgpocfcanokaa
open Go.RowKit

theorem RsP.high {w : World} {A : Option Addr} {n c : Nat} {ps : List Pc} (h : RsP w (.slice A n c) ps) {P : Program} (t e : TypeId) (i : TypeInfo) (ht : P.underlying t = some (.slice e)) (hi : P.info? e = some i) (h5 : i.size = 5) (k : Nat) (hk : k ≤ ps.length) (hc : ps.length ≤ c) :
    ∃ B d, (∀ W, (Instr.slice t (.slice A n c) none (some (.int .i64 (k : Int))) none).run P W = .ok (.slice B (ps.take k).length d) W) ∧ RsP w (.slice B (ps.take k).length d) (ps.take k) := by
  have e1 : P.elem t = e := by simp [Program.elem, ht]
  have ht' : P.underlying t = some (.slice (P.elem t)) := by rw [e1]; exact ht
  have hl : (ps.take k).length = k := by rw [List.length_take]; omega
  obtain ⟨A', c', he, hm, hx⟩ := h.ex
  have hn := h.nil
  injection he with he1 he2 he3
  subst he1 he2 he3
  refine ⟨A, c, fun W => ?_, ⟨⟨A, c, rfl, by omega, fun j hj => ?_⟩, fun n' c' e => ?_, fun A' n' c' e => by injection e with _ e1 e2; omega⟩⟩
  · rw [run_slice_h W t A ps.length c ht' .i64 (k : Int) (by omega) (by omega), e1, show (sizeOf e).run P W = .ok 5 W by simp [sizeOf, typeInfo, hi, h5], hl]
    simp [sliced]
    intro _
    cases A <;> simp [Addr.add]
  · obtain ⟨g, o, h1, h2, h3, h4⟩ := hx j (by rw [hl] at hj; omega)
    refine ⟨g, o, h1, h2, ?_, ?_⟩
    · rw [List.getElem_take]; exact h3
    · rw [List.getElem_take]; exact h4
  · injection e with e1 e2 e3
    exact hn _ _ (by rw [e1, e3])
theorem RsP.low {w : World} {A : Option Addr} {n c : Nat} {ps : List Pc} (h : RsP w (.slice A n c) ps) {P : Program} (t e : TypeId) (i : TypeInfo) (ht : P.underlying t = some (.slice e)) (hi : P.info? e = some i) (h5 : i.size = 5) (k : Nat) (hk : k ≤ ps.length) (hc : ps.length ≤ c) :
    ∃ B d, (∀ W, (Instr.slice t (.slice A n c) (some (.int .i64 (k : Int))) none none).run P W = .ok (.slice B (ps.drop k).length d) W) ∧ RsP w (.slice B (ps.drop k).length d) (ps.drop k) ∧ ∀ g, (Value.slice B (ps.drop k).length d).ownBlock = some g → (Value.slice A n c).ownBlock = some g := by
  have e1 : P.elem t = e := by simp [Program.elem, ht]
  have ht' : P.underlying t = some (.slice (P.elem t)) := by rw [e1]; exact ht
  have hl : (ps.drop k).length = ps.length - k := List.length_drop
  obtain ⟨A', c', he, hm, hx⟩ := h.ex
  have hn := h.nil
  injection he with he1 he2 he3
  subst he1 he2 he3
  refine ⟨if c = k then A else A.map (·.add (k * 5)), c - k, fun W => ?_, ⟨⟨_, _, rfl, by omega, fun j hj => ?_⟩, fun n' c' e => ?_, fun A' n' c' e => by injection e with _ e1 e2; omega⟩, fun g hg => ?_⟩
  · rw [run_slice_l W t A ps.length c ht' .i64 (k : Int) (by omega) (by omega), e1, show (sizeOf e).run P W = .ok 5 W by simp [sizeOf, typeInfo, hi, h5], hl]
    simp [sliced]
  · rw [hl] at hj
    obtain ⟨g, o, h1, h2, h3, h4⟩ := hx (k + j) (by omega)
    have hck : ¬ c = k := by omega
    refine ⟨g, o + k * 5, ?_, h2, ?_, ?_⟩
    · rw [if_neg hck, h1]
      by_cases h0 : k = 0
      · subst h0; simp [Addr.add]
      · have h5' : ¬ k * 5 = 0 := by omega
        simp [Addr.add, h5']
    · rw [List.getElem_drop, show o + k * 5 + j * 5 = o + (k + j) * 5 by omega]
      exact h3
    · rw [List.getElem_drop]; exact h4
  · injection e with e1 e2 e3
    by_cases hck : c = k
    · omega
    · rw [if_neg hck] at e1
      cases A with
      | none =>
        have := hn _ _ rfl
        omega
      | some a => cases e1
  · by_cases hck : c = k
    · rw [if_pos hck] at hg
      cases A with
      | none => cases hg
      | some a => exact hg
    · rw [if_neg hck] at hg
      cases A with
      | none => exact hg
      | some a =>
        have e : ((a.add (k * 5)).block) = a.block := by
          unfold Addr.add
          split <;> first | rfl | (split <;> rfl)
        have h1 : some (a.add (k * 5)).block = some g := hg
        rw [e] at h1
        exact h1
/-- A piece of the row, from a place to a place. -/
theorem RsP.mid {w : World} {A : Option Addr} {n c : Nat} {ps : List Pc} (h : RsP w (.slice A n c) ps) {P : Program} (t e : TypeId) (i : TypeInfo) (ht : P.underlying t = some (.slice e)) (hi : P.info? e = some i) (h5 : i.size = 5) (k m : Nat) (hk : k ≤ m) (hm : m ≤ ps.length) :
    ∃ B d, (∀ W, (Instr.slice t (.slice A n c) (some (.int .i64 (k : Int))) (some (.int .i64 (m : Int))) none).run P W = .ok (.slice B ((ps.drop k).take (m - k)).length d) W) ∧ RsP w (.slice B ((ps.drop k).take (m - k)).length d) ((ps.drop k).take (m - k)) ∧ ∀ g, (Value.slice B ((ps.drop k).take (m - k)).length d).ownBlock = some g → (Value.slice A n c).ownBlock = some g := by
  have e1 : P.elem t = e := by simp [Program.elem, ht]
  have ht' : P.underlying t = some (.slice (P.elem t)) := by rw [e1]; exact ht
  have hl : ((ps.drop k).take (m - k)).length = m - k := by rw [List.length_take, List.length_drop]; omega
  obtain ⟨A', c', he, hmx, hx⟩ := h.ex
  have hn := h.nil
  have hcp := h.cap _ _ _ rfl
  injection he with he1 he2 he3
  subst he1 he2 he3
  refine ⟨if c = k then A else A.map (·.add (k * 5)), c - k, fun W => ?_, ⟨⟨_, _, rfl, by omega, fun j hj => ?_⟩, fun n' c' e => ?_, fun A' n' c' e => by injection e with _ e1 e2; omega⟩, fun g hg => ?_⟩
  · rw [run_slice_lh W t A ps.length c ht' .i64 .i64 (k : Int) (m : Int) (by omega) (by omega) (by omega), e1, show (sizeOf e).run P W = .ok 5 W by simp [sizeOf, typeInfo, hi, h5], hl]
    simp [sliced]
  · rw [hl] at hj
    obtain ⟨g, o, h1, h2, h3, h4⟩ := hx (k + j) (by omega)
    have hck : ¬ c = k := by omega
    refine ⟨g, o + k * 5, ?_, h2, ?_, ?_⟩
    · rw [if_neg hck, h1]
      by_cases h0 : k = 0
      · subst h0; simp [Addr.add]
      · have h5' : ¬ k * 5 = 0 := by omega
        simp [Addr.add, h5']
    · rw [List.getElem_take, List.getElem_drop, show o + k * 5 + j * 5 = o + (k + j) * 5 by omega]
      exact h3
    · rw [List.getElem_take, List.getElem_drop]; exact h4
  · injection e with e1 e2 e3
    by_cases hck : c = k
    · omega
    · rw [if_neg hck] at e1
      cases A with
      | none =>
        have := hn _ _ rfl
        omega
      | some a => cases e1
  · by_cases hck : c = k
    · rw [if_pos hck] at hg
      cases A with
      | none => cases hg
      | some a => exact hg
    · rw [if_neg hck] at hg
      cases A with
      | none => exact hg
      | some a =>
        have e : ((a.add (k * 5)).block) = a.block := by
          unfold Addr.add
          split <;> first | rfl | (split <;> rfl)
        have h1 : some (a.add (k * 5)).block = some g := hg
        rw [e] at h1
        exact h1
theorem wpList_slice_fact {P : Program} {ops : Array Oper} {rest : List Oper} {o : Oper} {a : Act} {w : World} {Q : Exit → Act → World → Prop} (hgd : o.guard = none) (t e : TypeId) (ht : P.underlying t = some (.slice e)) (x : Operand) (l h : Option Operand) (hop : o.op = .slice t x l h none) (A : Option Addr) (n c : Nat) (r : Value) (L H : Option Value) (hx : a.eval x = .slice A n c) (hl : l.map a.eval = L) (hh : h.map a.eval = H)
    (hrun : ∀ W, (Instr.slice t (.slice A n c) L H none).run P W = .ok r W) (hK : wpList P ops Q rest (a.put o.dst r) w) : wpList P ops Q (o :: rest) a w := by
  refine wpList_plain hgd fun K' hK' => ?_
  unfold Oper.wp
  simp [execOp, hop, hx, hl, hh, Instr.sliceAt, run_underlying ht, hrun, Result.andThen]
  exact hK' _ _ hK
section
variable {P : Program} {ops : Array Oper} {rest : List Oper} {a : Act} {w : World} {Q : Exit → Act → World → Prop} {d : Option Tmp} {t : TypeId} {p : String} {f : Array Edge} {g : Option (Tmp × Bool)}
theorem here_sl {ty : TypeId} {x : Operand} {l h m : Option Operand} (hh : wpList P ops Q (⟨d, .slice ty x l h m, t, p, f, g⟩ :: rest) a w) : wpList P ops Q (⟨d, .slice ty x l h m, t, p, f, g⟩ :: rest) a w := hh
theorem here_apd {x y : Nat} {ts : Array TypeId} (hh : wpList P ops Q (⟨d, .call { callee := .builtin .append, args := #[.tmp x, .tmp y], argTypes := ts }, t, p, f, g⟩ :: rest) a w) : wpList P ops Q (⟨d, .call { callee := .builtin .append, args := #[.tmp x, .tmp y], argTypes := ts }, t, p, f, g⟩ :: rest) a w := hh
end
end Go.Proofs.Ytckgpocfcanokaa
