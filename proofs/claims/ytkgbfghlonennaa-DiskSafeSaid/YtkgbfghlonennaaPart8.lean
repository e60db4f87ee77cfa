/- Part 8 of the words that the laws share: DRefA. No condition of its own: each theorem says its own. -/
import Derived.Test.YtkgbfghlonennaaPart1
import Derived.Test.YtkgbfghlonennaaPart7
import Derived.IntWalk

/- The ninth reference's disk in memory; its find, zero and burn. Conditions: the disk is as a disk is. -/
namespace Go.Proofs.Ytkgbfghlonennaa
open Go.RowKit

/-- A written sector, and the slices that hold its bytes. -/
structure PV where
  p : Pl
  vn : Value
  vw : Value
def PV.cells (q : PV) : List Value := [.int .i64 (q.p.plc : Int), q.vn, q.vw, .bool q.p.torn, .bool q.p.old, .bool q.p.opn]
structure PvOk (w : World) (F : Nat → Prop) (X : Nat) (v : Value) (q : PV) : Prop where
  now : Rd w q.vn q.p.now
  was : Rd w q.vw q.p.was
  fn : ∀ k, q.vn.ownBlock = some k → F k ∧ k ≠ X ∧ v.ownBlock ≠ some k
  fw : ∀ k, q.vw.ownBlock = some k → F k ∧ k ≠ X ∧ v.ownBlock ≠ some k
/-- The disk at block X: its blocks are among F. -/
structure RefIs (w : World) (X : Nat) (S : DS) (F : Nat → Prop) (v : Value) (Q : List PV) : Prop where
  blk : Blk w X 30 [v, .int .i64 (S.fuse : Int), .bool S.dead, .int .i64 (S.ops : Int)]
  row : OwnR 6 w 0 40 v (Q.map PV.cells)
  pls : Q.map (·.p) = S.L
  fx : F X
  fv : ∀ k, v.ownBlock = some k → F k ∧ k ≠ X
  ok : ∀ q ∈ Q, PvOk w F X v q
  fl : ∀ k, F k → k < w.heap.size
  good : DOk S
  fz : (S.fuse : Int) ≤ 9223372036854775807
  os : S.ops ≤ 1000000
/-- The blocks that its calls write to: the disk's own, its row's. -/
def Wrt (X : Nat) (v : Value) (k : Nat) : Prop := k = X ∨ v.ownBlock = some k
theorem RefIs.own {w : World} {X : Nat} {S : DS} {F : Nat → Prop} {v : Value} {Q : List PV} (h : RefIs w X S F v Q) {k : Nat} (hk : Wrt X v k) : F k := hk.elim (fun e => by rw [e]; exact h.fx) fun e => (h.fv k e).1
theorem RefIs.other {w w' : World} {X : Nat} {S : DS} {F G : Nat → Prop} {v : Value} {Q : List PV} (h : RefIs w X S F v Q) (hc : Chg G w w') (hd : ∀ k, F k → ¬ G k) : RefIs w' X S F v Q :=
  ⟨hc.blk h.blk (hd X h.fx), hc.ownR h.row fun k hk => hd k (h.fv k hk).1, h.pls, h.fx, h.fv, fun q hq => ⟨hc.rd (h.ok q hq).now fun k hk => hd k ((h.ok q hq).fn k hk).1, hc.rd (h.ok q hq).was fun k hk => hd k ((h.ok q hq).fw k hk).1, (h.ok q hq).fn, (h.ok q hq).fw⟩, fun k hk => Nat.lt_of_lt_of_le (h.fl k hk) hc.size, h.good, h.fz, h.os⟩
theorem rise_ge : ∀ (L : List Pl) (m : Nat), (∀ p ∈ L, m ≤ p.plc) → (L.Pairwise fun p q => p.plc < q.plc) → (∀ p ∈ L, p.plc < 1024) → L.length + m ≤ 1024 ∨ L = []
  | [], _, _, _, _ => .inr rfl
  | p :: L, m, hm, hr, hl => by
    have h1 := hm p (List.mem_cons_self ..)
    have h2 := hl p (List.mem_cons_self ..)
    rw [List.pairwise_cons] at hr
    rcases rise_ge L (p.plc + 1) (fun q hq => hr.1 q hq) hr.2 (fun q hq => hl q (List.mem_cons_of_mem _ hq)) with h | h
    · left
      rw [List.length_cons]
      omega
    · subst h
      left
      rw [List.length_cons, List.length_nil]
      omega
theorem DOk.length {S : DS} (h : DOk S) : S.L.length ≤ 1024 := by
  rcases rise_ge S.L 0 (fun _ _ => Nat.zero_le _) h.rise h.low with h1 | h1
  · omega
  · rw [h1]
    exact Nat.zero_le _
theorem findL_at {L : List Pl} {k : Int} {i : Nat} (hi : i < L.length) (h0 : ∀ q (hq : q < i), ((L[q]'(by omega)).plc : Int) ≠ k) (h1 : (L[i].plc : Int) = k) : findL L k = i := by
  unfold findL
  rw [List.findIdx_eq hi]
  exact ⟨decide_eq_true h1, fun j hj => decide_eq_false (h0 j hj)⟩
theorem findL_none {L : List Pl} {k : Int} (h0 : ∀ q (hq : q < L.length), ((L[q]).plc : Int) ≠ k) : findL L k = L.length := by
  unfold findL
  rw [List.findIdx_eq_length]
  intro p hp
  obtain ⟨q, hq, rfl⟩ := List.getElem_of_mem hp
  exact decide_eq_false (h0 q hq)
/-- What find answers. -/
def findI (L : List Pl) (k : Int) : Int := if findL L k < L.length then (findL L k : Int) else -1
theorem RefIs.len {w : World} {X : Nat} {S : DS} {F : Nat → Prop} {v : Value} {Q : List PV} (h : RefIs w X S F v Q) : Q.length = S.L.length := by rw [← h.pls, List.length_map]
theorem RefIs.at {w : World} {X : Nat} {S : DS} {F : Nat → Prop} {v : Value} {Q : List PV} (h : RefIs w X S F v Q) {i : Nat} (hi : i < Q.length) : S.L[i]'(by rw [← h.len]; exact hi) = Q[i].p := by
  have := h.pls
  simp only [← this, List.getElem_map]
theorem RefIs.cell {w : World} {X : Nat} {S : DS} {F : Nat → Prop} {Q : List PV} {g m c : Nat} (h : RefIs w X S F (.slice (some ⟨g, 0, none⟩) m c) Q) {i j : Nat} (hi : i < Q.length) (hj : j < 6) : w.cell? ⟨g, i * 6 + j, none⟩ = Q[i].cells[j]? := by
  rw [h.row.cell i j (by simpa using hi) hj, List.getD, List.getElem?_map, List.getElem?_eq_getElem hi]
  rfl
theorem RefIs.form {w : World} {X : Nat} {S : DS} {F : Nat → Prop} {v : Value} {Q : List PV} (h : RefIs w X S F v Q) : ∃ A c, v = .slice A Q.length c ∧ Q.length ≤ c ∧ c ≤ maxLen ∧ (0 < Q.length → ∃ g, A = some ⟨g, 0, none⟩ ∧ g < w.heap.size) := by
  obtain ⟨A, c, h1, h2, h3, h4⟩ := h.row.form
  rw [List.length_map] at h1 h2 h4
  exact ⟨A, c, h1, h2, h3, fun h0 => by obtain ⟨g, e, _, h5⟩ := h4 h0; exact ⟨g, e, h5⟩⟩
def FndRel (L : List Pl) (k : Int) (w : World) (v : Value) (W : World) : Prop := ∃ i : Nat, v = .int .i64 (i : Int) ∧ i ≤ L.length ∧ (∀ q (_ : q < i) (h2 : q < L.length), ((L[q]).plc : Int) ≠ k) ∧ W = w
set_option maxRecDepth 100000 in
set_option maxHeartbeats 1000000 in
theorem refFind_any {w : World} {X : Nat} {S : DS} {F : Nat → Prop} {v : Value} {Q : List PV} (h : RefIs w X S F v Q) (k : Int) :
    Calls Try.prog 30 #[.pointer (some ⟨X, 0, none⟩), .int .i64 k] w fun e w' => e = .returned (.int .i64 (findI S.L k)) ∧ w' = w := by
  obtain ⟨A, c, rfl, hc1, hc2, hA⟩ := h.form
  have HR := Lib.hid h
  have HA := Lib.hid hA
  have HLn := Lib.hid h.len
  have n1 : (Q.length : Int) ≤ 1024 := by have := h.good.length; have := h.len; omega
  have cv : w.cell? ⟨X, 0, none⟩ = some (.slice A Q.length c) := by rw [h.blk.cell]; rfl
  clear hA h hc1 hc2
  go_enter Try.func30, Try.ntmps30
  go_wp2_with (fail)
  go_loopw [5] (fun v wx => FndRel S.L k w v wx) (fun v _ => Q.length - (intOf v).toNat)
  case atStart => exact ⟨0, rfl, Nat.zero_le _, fun q h => by omega, rfl⟩
  case round =>
    obtain ⟨i, rfl, hi, hno, rfl⟩ := hrel
    by_cases hlt : i < Q.length
    · have hI : (i : Int) < Q.length := by omega
      obtain ⟨g, rfl, hg⟩ := HA.out (by omega)
      have hSL : i < S.L.length := by rw [← HLn.out]; exact hlt
      obtain ⟨pc, hpc⟩ : ∃ pc, pc = (Q[i].p).plc := ⟨_, rfl⟩
      have c1 : wr.cell? ⟨g, i * 6, none⟩ = some (.int .i64 (pc : Int)) := by
        have h1 := HR.out.cell (i := i) (j := 0) hlt (by decide)
        rw [Nat.add_zero] at h1
        rw [h1, hpc]
        rfl
      have hplc : (S.L[i]'hSL).plc = pc := by rw [HR.out.at hlt, hpc]
      have pcI : (pc : Int) < 1024 := by
        have := HR.out.good.low (S.L[i]'hSL) (List.getElem_mem hSL)
        omega
      by_cases hk : (pc : Int) = k
      · have HF : Hid (findI S.L k = (i : Int)) := Lib.hid (by
          have e := findL_at hSL (fun q hq => hno q hq (by omega)) (by rw [hplc]; exact hk)
          unfold findI
          rw [e, if_pos hSL])
        have e1 : ((pc : Int) == k) = true := by rw [hk]; exact beq_self_eq_true _
        clear hno hpc hplc hk hi hlt hSL
        go_wp2_with (fail)
        go_ret
        exact ⟨by rw [HF.out]; rfl, rfl⟩
      · have e1 : ((pc : Int) == k) = false := by rw [beq_eq_false_iff_ne]; exact hk
        have HNO : Hid (∀ q (_ : q < i + 1) (h2 : q < S.L.length), ((S.L[q]).plc : Int) ≠ k) := Lib.hid fun q hq h2 => by
          by_cases e : q = i
          · subst e
            rw [hplc]
            exact hk
          · exact hno q (by omega) h2
        have HI := Lib.hid hlt
        clear hno hpc hplc hi hlt hSL
        go_wp2_with (fail)
        have hlt := HI.out
        refine ⟨⟨i + 1, by go_num, by rw [← HLn.out]; omega, HNO.out, rfl⟩, by simp [intOf]; omega⟩
    · have e : i = Q.length := by have := HLn.out; omega
      have HF : Hid (findI S.L k = -1) := Lib.hid (by
        have e2 := findL_none (L := S.L) (k := k) (fun q hq => hno q (by have := HLn.out; omega) hq)
        unfold findI
        rw [e2, if_neg (Nat.lt_irrefl _)])
      subst e
      clear hno hi hlt
      go_wp2_with (fail)
      go_ret
      exact ⟨by rw [HF.out]; rfl, rfl⟩
end Go.Proofs.Ytkgbfghlonennaa
