/- Part 4 of the words that the laws share: PcRow, PcAl, RsPS, RsGr. No condition of its own: each theorem says its own. -/
import Derived.Test.YtcicdbhffkpldaaPart1
import Derived.Deep.MidRow

/- A row of pieces as it comes in: none, or a slice of them anywhere. No condition of its own. -/
namespace Go.Proofs.Ytcicdbhffkpldaa
open Go.RowKit

structure RsP (w : World) (v : Value) (ps : List Pc) : Prop where
  ex : ∃ A c, v = .slice A ps.length c ∧ ps.length ≤ maxLen ∧ ∀ i (h : i < ps.length), ∃ g o, A = some ⟨g, o, none⟩ ∧ g < w.heap.size ∧ w.rangeAt g (o + i * 5) ps[i].vs ∧ ps[i].Ok
  nil : ∀ n c, v = .slice none n c → c = 0
  cap : ∀ A n c, v = .slice A n c → n ≤ c
theorem range_below {w w' : World} {g o : Nat} {cs : List Value} (h : w.rangeAt g o cs) (hg : g < w.heap.size) (hb : Below w.heap.size w w') : w'.rangeAt g o cs := fun j v hv => (hb.cell (p := ⟨g, o + j, none⟩) hg).trans (h j v hv)
theorem RsP.below {w w' : World} {v : Value} {ps : List Pc} (h : RsP w v ps) (hb : Below w.heap.size w w') : RsP w' v ps := by
  have hn := h.nil
  have hp := h.cap
  obtain ⟨A, c, rfl, hm, h⟩ := h.ex
  refine ⟨⟨A, c, rfl, hm, fun i hi => ?_⟩, hn, hp⟩
  obtain ⟨g, o, rfl, h1, h2, h3⟩ := h i hi
  exact ⟨g, o, rfl, Nat.lt_of_lt_of_le h1 hb.size, range_below h2 h1 hb, h3⟩
theorem RsP.ok {w : World} {v : Value} {ps : List Pc} (h : RsP w v ps) : ∀ p ∈ ps, p.Ok := fun p hp => by
  obtain ⟨A, c, rfl, hm, h⟩ := h.ex
  obtain ⟨i, hi, rfl⟩ := List.getElem_of_mem hp
  obtain ⟨_, _, _, _, _, h3⟩ := h i hi
  exact h3
theorem RsP.form {w : World} {v : Value} {ps : List Pc} (h : RsP w v ps) : ∃ A c, v = .slice A ps.length c ∧ ps.length ≤ maxLen := by
  obtain ⟨A, c, h1, h2, _⟩ := h.ex
  exact ⟨A, c, h1, h2⟩
/-- A piece's cells, where it lies in a row. -/
theorem RsP.at' {w : World} {A : Option Addr} {n c : Nat} {ps : List Pc} (h : RsP w (.slice A n c) ps) {i : Nat} (hi : i < ps.length) : ∃ g o, A = some ⟨g, o, none⟩ ∧ g < w.heap.size ∧ w.rangeAt g (o + i * 5) ps[i].vs ∧ ps[i].Ok := by
  obtain ⟨A', c', he, _, h⟩ := h.ex
  injection he with h1 h2 h3
  subst h1
  exact h i hi
theorem RsP.at2 {w : World} {A : Option Addr} {n c : Nat} {ps : List Pc} (h : RsP w (.slice A n c) ps) {i : Nat} {p : Pc} (hi : ps[i]? = some p) : ∃ g o, A = some ⟨g, o, none⟩ ∧ g < w.heap.size ∧ w.rangeAt g (o + i * 5) p.vs ∧ p.Ok := by
  obtain ⟨hlt, rfl⟩ := List.getElem?_eq_some_iff.1 hi
  exact h.at' hlt
theorem range5 {w : World} {g o : Nat} {p : Pc} (h : w.rangeAt g o p.vs) : w.cell? ⟨g, o, none⟩ = some (.string p.s) ∧ w.cell? ⟨g, o + 1, none⟩ = some (.int .i64 p.t) ∧ w.cell? ⟨g, o + 2, none⟩ = some (.int .i64 p.v) ∧ w.cell? ⟨g, o + 3, none⟩ = some (.int .u64 (p.n : Int)) ∧ w.cell? ⟨g, o + 4, none⟩ = some (.int .u16 (p.o : Int)) :=
  ⟨h 0 _ rfl, h 1 _ rfl, h 2 _ rfl, h 3 _ rfl, h 4 _ rfl⟩
/-- Some rows of pieces in a row of slices. -/
def PsP (w : World) (v : Value) (ls : List (List Pc)) : Prop :=
  ∃ g c, v = .slice (some ⟨g, 0, none⟩) ls.length c ∧ g < w.heap.size ∧ ∀ i (h : i < ls.length), ∃ u, w.cell? ⟨g, i, none⟩ = some u ∧ RsP w u ls[i]
end Go.Proofs.Ytcicdbhffkpldaa

/- Rows of pieces, newly made. No condition. -/
namespace Go.Proofs.Ytcicdbhffkpldaa
open Go.RowKit

theorem RsP.alloc {w : World} {v : Value} {ps : List Pc} (h : RsP w v ps) (o : Obj) : RsP (w.alloc o) v ps := h.below ((Below.refl _ w).alloc (Nat.le_refl _) o)
theorem rsP_one (w : World) (p : Pc) (t : TypeId) (c : Nat) (hp : p.Ok) (hc1 : 1 ≤ c := by decide) : RsP (w.alloc (.cells p.vs.toArray t)) (.slice (some ⟨w.heap.size, 0, none⟩) 1 c) [p] := by
  refine ⟨⟨some ⟨w.heap.size, 0, none⟩, c, rfl, by simp [maxLen], fun i hi => ⟨w.heap.size, 0, rfl, by simp, ?_, ?_⟩⟩, fun n c e => (by injection e with e _ _; cases e), fun A' n' c' e => by injection e with _ e1 e2; omega⟩
  · have h0 : i = 0 := by simp at hi; omega
    subst h0
    intro j v hv
    show (w.alloc (.cells p.vs.toArray t)).cell? ⟨w.heap.size, 0 + 0 * 5 + j, none⟩ = some v
    rw [World.cell?_alloc_new, List.getElem?_toArray, Nat.zero_mul, Nat.zero_add]
    exact hv
  · have h0 : i = 0 := by simp at hi; omega
    subst h0
    exact hp
theorem psP_mk (w : World) (us : List Value) (ls : List (List Pc)) (t : TypeId) (c : Nat) (hl : us.length = ls.length) (h : ∀ (i : Nat) (u : Value) (l : List Pc), us[i]? = some u → ls[i]? = some l → RsP w u l) : PsP (w.alloc (.cells us.toArray t)) (.slice (some ⟨w.heap.size, 0, none⟩) ls.length c) ls := by
  refine ⟨w.heap.size, c, rfl, by simp, fun i hi => ?_⟩
  have hi2 : i < us.length := by omega
  refine ⟨us[i], ?_, (h i us[i] ls[i] (List.getElem?_eq_getElem hi2) (List.getElem?_eq_getElem hi)).alloc _⟩
  rw [World.cell?_alloc_new, List.getElem?_toArray]
  exact List.getElem?_eq_getElem hi2
theorem psP_two {w : World} {u1 u2 : Value} {l1 l2 : List Pc} (t : TypeId) (c : Nat) (h1 : RsP w u1 l1) (h2 : RsP w u2 l2) : PsP (w.alloc (.cells #[u1, u2] t)) (.slice (some ⟨w.heap.size, 0, none⟩) 2 c) [l1, l2] :=
  psP_mk w [u1, u2] [l1, l2] t c rfl fun i u l a b => by
    match i with
    | 0 =>
      obtain rfl : u1 = u := by simpa using a
      obtain rfl : l1 = l := by simpa using b
      exact h1
    | 1 =>
      obtain rfl : u2 = u := by simpa using a
      obtain rfl : l2 = l := by simpa using b
      exact h2
    | n + 2 => simp at a
theorem psP_three {w : World} {u1 u2 u3 : Value} {l1 l2 l3 : List Pc} (t : TypeId) (c : Nat) (h1 : RsP w u1 l1) (h2 : RsP w u2 l2) (h3 : RsP w u3 l3) : PsP (w.alloc (.cells #[u1, u2, u3] t)) (.slice (some ⟨w.heap.size, 0, none⟩) 3 c) [l1, l2, l3] :=
  psP_mk w [u1, u2, u3] [l1, l2, l3] t c rfl fun i u l a b => by
    match i with
    | 0 =>
      obtain rfl : u1 = u := by simpa using a
      obtain rfl : l1 = l := by simpa using b
      exact h1
    | 1 =>
      obtain rfl : u2 = u := by simpa using a
      obtain rfl : l2 = l := by simpa using b
      exact h2
    | 2 =>
      obtain rfl : u3 = u := by simpa using a
      obtain rfl : l3 = l := by simpa using b
      exact h3
    | n + 3 => simp at a
end Go.Proofs.Ytcicdbhffkpldaa

/- A piece of a row of pieces: its head, its tail; a slice's piece as a fact says. No condition of its own. -/
namespace Go.Proofs.Ytcicdbhffkpldaa
open Go.RowKit

theorem RsP.high {w : World} {A : Option Addr} {n c : Nat} {ps : List Pc} (h : RsP w (.slice A n c) ps) {P : Program} (t e : TypeId) (i : TypeInfo) (ht : P.underlying t = some (.slice e)) (hi : P.info? e = some i) (h5 : i.size = 5) (k : Nat) (hk : k ≤ ps.length) (hc : ps.length ≤ c) :
    ∃ B d, (∀ W, (Instr.slice t (.slice A n c) none (some (.int .i64 (k : Int))) none).run P W = .ok (.slice B (ps.take k).length d) W) ∧ RsP w (.slice B (ps.take k).length d) (ps.take k) := by
  have e1 : P.elem t = e := by simp [Program.elem, ht]
  have ht' : P.underlying t = some (.slice (P.elem t)) := by rw [e1]; exact ht
  have hl : (ps.take k).length = k := by rw [List.length_take]; omega
  obtain ⟨A', c', he, hm, hx⟩ := h.ex
  have hn := h.nil
  injection he with he1 he2 he3
  subst he1 he2 he3
  refine ⟨A, c, fun W => ?_, ⟨⟨A, c, rfl, by omega, fun j hj => ?_⟩, fun n' c' e => ?_, fun A' n' c' e => by injection e with _ e1 e2; omega⟩⟩
  · rw [run_slice_h W t A ps.length c ht' .i64 (k : Int) (by omega) (by omega), e1, show (sizeOf e).run P W = .ok 5 W by simp [sizeOf, typeInfo, hi, h5], hl]
    simp [sliced]
    intro _
    cases A <;> simp [Addr.add]
  · obtain ⟨g, o, h1, h2, h3, h4⟩ := hx j (by rw [hl] at hj; omega)
    refine ⟨g, o, h1, h2, ?_, ?_⟩
    · rw [List.getElem_take]; exact h3
    · rw [List.getElem_take]; exact h4
  · injection e with e1 e2 e3
    exact hn _ _ (by rw [e1, e3])
theorem RsP.low {w : World} {A : Option Addr} {n c : Nat} {ps : List Pc} (h : RsP w (.slice A n c) ps) {P : Program} (t e : TypeId) (i : TypeInfo) (ht : P.underlying t = some (.slice e)) (hi : P.info? e = some i) (h5 : i.size = 5) (k : Nat) (hk : k ≤ ps.length) (hc : ps.length ≤ c) :
    ∃ B d, (∀ W, (Instr.slice t (.slice A n c) (some (.int .i64 (k : Int))) none none).run P W = .ok (.slice B (ps.drop k).length d) W) ∧ RsP w (.slice B (ps.drop k).length d) (ps.drop k) ∧ ∀ g, (Value.slice B (ps.drop k).length d).ownBlock = some g → (Value.slice A n c).ownBlock = some g := by
  have e1 : P.elem t = e := by simp [Program.elem, ht]
  have ht' : P.underlying t = some (.slice (P.elem t)) := by rw [e1]; exact ht
  have hl : (ps.drop k).length = ps.length - k := List.length_drop
  obtain ⟨A', c', he, hm, hx⟩ := h.ex
  have hn := h.nil
  injection he with he1 he2 he3
  subst he1 he2 he3
  refine ⟨if c = k then A else A.map (·.add (k * 5)), c - k, fun W => ?_, ⟨⟨_, _, rfl, by omega, fun j hj => ?_⟩, fun n' c' e => ?_, fun A' n' c' e => by injection e with _ e1 e2; omega⟩, fun g hg => ?_⟩
  · rw [run_slice_l W t A ps.length c ht' .i64 (k : Int) (by omega) (by omega), e1, show (sizeOf e).run P W = .ok 5 W by simp [sizeOf, typeInfo, hi, h5], hl]
    simp [sliced]
  · rw [hl] at hj
    obtain ⟨g, o, h1, h2, h3, h4⟩ := hx (k + j) (by omega)
    have hck : ¬ c = k := by omega
    refine ⟨g, o + k * 5, ?_, h2, ?_, ?_⟩
    · rw [if_neg hck, h1]
      by_cases h0 : k = 0
      · subst h0; simp [Addr.add]
      · have h5' : ¬ k * 5 = 0 := by omega
        simp [Addr.add, h5']
    · rw [List.getElem_drop, show o + k * 5 + j * 5 = o + (k + j) * 5 by omega]
      exact h3
    · rw [List.getElem_drop]; exact h4
  · injection e with e1 e2 e3
    by_cases hck : c = k
    · omega
    · rw [if_neg hck] at e1
      cases A with
      | none =>
        have := hn _ _ rfl
        omega
      | some a => cases e1
  · by_cases hck : c = k
    · rw [if_pos hck] at hg
      cases A with
      | none => cases hg
      | some a => exact hg
    · rw [if_neg hck] at hg
      cases A with
      | none => exact hg
      | some a =>
        have e : ((a.add (k * 5)).block) = a.block := by
          unfold Addr.add
          split <;> first | rfl | (split <;> rfl)
        have h1 : some (a.add (k * 5)).block = some g := hg
        rw [e] at h1
        exact h1
/-- A piece of the row, from a place to a place. -/
theorem RsP.mid {w : World} {A : Option Addr} {n c : Nat} {ps : List Pc} (h : RsP w (.slice A n c) ps) {P : Program} (t e : TypeId) (i : TypeInfo) (ht : P.underlying t = some (.slice e)) (hi : P.info? e = some i) (h5 : i.size = 5) (k m : Nat) (hk : k ≤ m) (hm : m ≤ ps.length) :
    ∃ B d, (∀ W, (Instr.slice t (.slice A n c) (some (.int .i64 (k : Int))) (some (.int .i64 (m : Int))) none).run P W = .ok (.slice B ((ps.drop k).take (m - k)).length d) W) ∧ RsP w (.slice B ((ps.drop k).take (m - k)).length d) ((ps.drop k).take (m - k)) ∧ ∀ g, (Value.slice B ((ps.drop k).take (m - k)).length d).ownBlock = some g → (Value.slice A n c).ownBlock = some g := by
  have e1 : P.elem t = e := by simp [Program.elem, ht]
  have ht' : P.underlying t = some (.slice (P.elem t)) := by rw [e1]; exact ht
  have hl : ((ps.drop k).take (m - k)).length = m - k := by rw [List.length_take, List.length_drop]; omega
  obtain ⟨A', c', he, hmx, hx⟩ := h.ex
  have hn := h.nil
  have hcp := h.cap _ _ _ rfl
  injection he with he1 he2 he3
  subst he1 he2 he3
  refine ⟨if c = k then A else A.map (·.add (k * 5)), c - k, fun W => ?_, ⟨⟨_, _, rfl, by omega, fun j hj => ?_⟩, fun n' c' e => ?_, fun A' n' c' e => by injection e with _ e1 e2; omega⟩, fun g hg => ?_⟩
  · rw [run_slice_lh W t A ps.length c ht' .i64 .i64 (k : Int) (m : Int) (by omega) (by omega) (by omega), e1, show (sizeOf e).run P W = .ok 5 W by simp [sizeOf, typeInfo, hi, h5], hl]
    simp [sliced]
  · rw [hl] at hj
    obtain ⟨g, o, h1, h2, h3, h4⟩ := hx (k + j) (by omega)
    have hck : ¬ c = k := by omega
    refine ⟨g, o + k * 5, ?_, h2, ?_, ?_⟩
    · rw [if_neg hck, h1]
      by_cases h0 : k = 0
      · subst h0; simp [Addr.add]
      · have h5' : ¬ k * 5 = 0 := by omega
        simp [Addr.add, h5']
    · rw [List.getElem_take, List.getElem_drop, show o + k * 5 + j * 5 = o + (k + j) * 5 by omega]
      exact h3
    · rw [List.getElem_take, List.getElem_drop]; exact h4
  · injection e with e1 e2 e3
    by_cases hck : c = k
    · omega
    · rw [if_neg hck] at e1
      cases A with
      | none =>
        have := hn _ _ rfl
        omega
      | some a => cases e1
  · by_cases hck : c = k
    · rw [if_pos hck] at hg
      cases A with
      | none => cases hg
      | some a => exact hg
    · rw [if_neg hck] at hg
      cases A with
      | none => exact hg
      | some a =>
        have e : ((a.add (k * 5)).block) = a.block := by
          unfold Addr.add
          split <;> first | rfl | (split <;> rfl)
        have h1 : some (a.add (k * 5)).block = some g := hg
        rw [e] at h1
        exact h1
theorem wpList_slice_fact {P : Program} {ops : Array Oper} {rest : List Oper} {o : Oper} {a : Act} {w : World} {Q : Exit → Act → World → Prop} (hgd : o.guard = none) (t e : TypeId) (ht : P.underlying t = some (.slice e)) (x : Operand) (l h : Option Operand) (hop : o.op = .slice t x l h none) (A : Option Addr) (n c : Nat) (r : Value) (L H : Option Value) (hx : a.eval x = .slice A n c) (hl : l.map a.eval = L) (hh : h.map a.eval = H)
    (hrun : ∀ W, (Instr.slice t (.slice A n c) L H none).run P W = .ok r W) (hK : wpList P ops Q rest (a.put o.dst r) w) : wpList P ops Q (o :: rest) a w := by
  refine wpList_plain hgd fun K' hK' => ?_
  unfold Oper.wp
  simp [execOp, hop, hx, hl, hh, Instr.sliceAt, run_underlying ht, hrun, Result.andThen]
  exact hK' _ _ hK
section
variable {P : Program} {ops : Array Oper} {rest : List Oper} {a : Act} {w : World} {Q : Exit → Act → World → Prop} {d : Option Tmp} {t : TypeId} {p : String} {f : Array Edge} {g : Option (Tmp × Bool)}
theorem here_sl {ty : TypeId} {x : Operand} {l h m : Option Operand} (hh : wpList P ops Q (⟨d, .slice ty x l h m, t, p, f, g⟩ :: rest) a w) : wpList P ops Q (⟨d, .slice ty x l h m, t, p, f, g⟩ :: rest) a w := hh
theorem here_apd {x y : Nat} {ts : Array TypeId} (hh : wpList P ops Q (⟨d, .call { callee := .builtin .append, args := #[.tmp x, .tmp y], argTypes := ts }, t, p, f, g⟩ :: rest) a w) : wpList P ops Q (⟨d, .call { callee := .builtin .append, args := #[.tmp x, .tmp y], argTypes := ts }, t, p, f, g⟩ :: rest) a w := hh
end
end Go.Proofs.Ytcicdbhffkpldaa

/- Groups of pieces: a row of rows of pieces. No condition. -/
namespace Go.Proofs.Ytcicdbhffkpldaa
open Go.RowKit

/-- Groups of pieces. -/
structure RsG (w : World) (v : Value) (ls : List (List Pc)) : Prop where
  ex : ∃ A c, v = .slice A ls.length c ∧ ls.length ≤ maxLen ∧ ∀ i (h : i < ls.length), ∃ g o u, A = some ⟨g, o, none⟩ ∧ g < w.heap.size ∧ w.cell? ⟨g, o + i, none⟩ = some u ∧ RsP w u ls[i]
theorem RsG.below {w w' : World} {v : Value} {ls : List (List Pc)} (h : RsG w v ls) (hb : Below w.heap.size w w') : RsG w' v ls := by
  obtain ⟨A, c, rfl, hm, h⟩ := h.ex
  refine ⟨A, c, rfl, hm, fun i hi => ?_⟩
  obtain ⟨g, o, u, h1, h2, h3, h4⟩ := h i hi
  exact ⟨g, o, u, h1, Nat.lt_of_lt_of_le h2 hb.size, (hb.cell (p := ⟨g, o + i, none⟩) h2).trans h3, h4.below hb⟩
theorem RsG.at2 {w : World} {A : Option Addr} {n c : Nat} {ls : List (List Pc)} (h : RsG w (.slice A n c) ls) {i : Nat} {l : List Pc} (hi : ls[i]? = some l) : ∃ g o u, A = some ⟨g, o, none⟩ ∧ g < w.heap.size ∧ w.cell? ⟨g, o + i, none⟩ = some u ∧ RsP w u l := by
  obtain ⟨hlt, rfl⟩ := List.getElem?_eq_some_iff.1 hi
  obtain ⟨A', c', he, _, h⟩ := h.ex
  injection he with h1
  subst h1
  exact h i hlt
end Go.Proofs.Ytcicdbhffkpldaa
