/- Part 13 of the words that the laws share: DRefF, DRefG, DRefH, DRefI. No condition of its own: each theorem says its own. -/
import Derived.Test.YtkgbfghlonennaaPart10
import Derived.Test.YtkgbfghlonennaaPart12
import Derived.Test.YtkgbfghlonennaaPart4
import Derived.Test.YtkgbfghlonennaaPart1
import Derived.BigRegion
import Derived.Deep.Cut

/- The ninth reference's Write, its second loop: the bytes of a sector. No condition of its own. -/
namespace Go.Proofs.Ytkgbfghlonennaa
open Go.RowKit

/-- The first k bytes, zeros behind them. -/
def mixZ (bs : List UInt8) (k : Nat) : List UInt8 := bs.take k ++ List.replicate (128 - k) 0
theorem mixZ_zero (bs : List UInt8) : mixZ bs 0 = z128 := by simp [mixZ, z128]
theorem mixZ_all (bs : List UInt8) : mixZ bs bs.length = pad128 bs := by simp [mixZ, pad128]
theorem mixZ_set {bs : List UInt8} {k : Nat} (hk : k < bs.length) (h : bs.length ≤ 128) : (mixZ bs k).set k bs[k] = mixZ bs (k + 1) := by
  have h1 : (bs.take k).length = k := by simp; omega
  unfold mixZ
  rw [List.set_append_right _ _ (by omega), h1, Nat.sub_self, List.take_add_one, List.getElem?_eq_getElem hk, List.append_assoc, show 128 - k = (128 - (k + 1)) + 1 by omega, List.replicate_succ, List.set_cons_zero]
  rfl
theorem mixZ_get {bs : List UInt8} {k : Nat} (hk : k < bs.length) (h : bs.length ≤ 128) : (mixZ bs k)[k]? = some 0 := by
  have h1 : (bs.take k).length = k := by simp; omega
  unfold mixZ
  rw [List.getElem?_append_right (by omega), h1, Nat.sub_self, List.getElem?_replicate, if_pos (by omega)]
theorem sole_set_drewN' (w : World) (B j n : Nat) (v : Value) : Sole w ((w.drewN n).setCell ⟨B, j, none⟩ v) B := (show Sole w (w.drewN n) B from ⟨⟨rfl, rfl, rfl, Nat.le_refl _, fun _ _ => rfl⟩, rfl, fun _ _ => rfl⟩).trans (Sole.setCell _ B j v)
def WrbRel (bs : List UInt8) (Z : Nat) (w : World) (v : Value) (W : World) : Prop := ∃ k : Nat, v = .int .i64 (k : Int) ∧ k ≤ bs.length ∧ Blk W Z 5 ((mixZ bs k).map bv) ∧ Sole w W Z
noncomputable def body_wrb : Code := (((Try.f27.body.map loopsOf).getD [])[1]?).getD .skip
set_option maxRecDepth 100000 in
set_option maxHeartbeats 2000000 in
theorem wrb_loop (c0 c1 c3 c4 c5 c6 c7 c8 c9 c10 c13 c14 c15 c16 c17 c18 c19 c20 c21 c22 c23 c24 c25 c26 c27 c28 c29 c30 c31 c32 c33 c34 c35 c36 c37 c38 c39 c40 c41 c42 c43 c44 c45 c46 c47 c48 c49 c50 c51 c52 c53 c54 c55 c56 c57 c58 c59 c60 c61 c62 c63 c64 c65 c66 c67 c68 c69 c70 c71 c72 c73 c74 c75 c76 c77 c78 c79 c80 c81 c82 c83 c84 c85 c86 c87 c88 c89 c90 c91 c92 c93 c94 c95 c96 c97 c98 c99 c100 c101 c102 c103 c104 c105 c106 c107 c108 c109 c110 c111 c112 c113 c114 c115 c116 c117 c118 c119 c120 c121 c122 c123 c124 c125 c126 : Value) (bs : List UInt8) (Ab : Option Addr) (cb C Z : Nat) (w : World) (hl : bs.length ≤ 128) (hCZ : C ≠ Z) (hr : Hid (Rd w (.slice Ab bs.length cb) bs)) (hne : Hid (0 < bs.length → ∀ ad, Ab = some ad → ad.block ≠ Z))
    (hc : Hid (w.cell? ⟨C, 1, none⟩ = some (.slice (some ⟨Z, 0, none⟩) 128 128))) (h0 : Hid (Blk w Z 5 (z128.map bv))) {Q : Exit → Act → World → Prop}
    (HQ : Hid (∀ (u12 u103 u104 u105 u106 u107 u108 u109 u110 u111 u112 u113 u114 u115 u116 : Value) (wx : World), Hid (Blk wx Z 5 ((pad128 bs).map bv)) → Hid (Sole w wx Z) → Q (.exit 2) ⟨List.toArray (c0 :: c1 :: (.slice Ab bs.length cb) :: c3 :: c4 :: c5 :: c6 :: c7 :: c8 :: c9 :: c10 :: (.pointer (some ⟨C, 0, none⟩)) :: u12 :: c13 :: c14 :: c15 :: c16 :: c17 :: c18 :: c19 :: c20 :: c21 :: c22 :: c23 :: c24 :: c25 :: c26 :: c27 :: c28 :: c29 :: c30 :: c31 :: c32 :: c33 :: c34 :: c35 :: c36 :: c37 :: c38 :: c39 :: c40 :: c41 :: c42 :: c43 :: c44 :: c45 :: c46 :: c47 :: c48 :: c49 :: c50 :: c51 :: c52 :: c53 :: c54 :: c55 :: c56 :: c57 :: c58 :: c59 :: c60 :: c61 :: c62 :: c63 :: c64 :: c65 :: c66 :: c67 :: c68 :: c69 :: c70 :: c71 :: c72 :: c73 :: c74 :: c75 :: c76 :: c77 :: c78 :: c79 :: c80 :: c81 :: c82 :: c83 :: c84 :: c85 :: c86 :: c87 :: c88 :: c89 :: c90 :: c91 :: c92 :: c93 :: c94 :: c95 :: c96 :: c97 :: c98 :: c99 :: c100 :: c101 :: c102 :: u103 :: u104 :: u105 :: u106 :: u107 :: u108 :: u109 :: u110 :: u111 :: u112 :: u113 :: u114 :: u115 :: u116 :: c117 :: c118 :: c119 :: c120 :: c121 :: c122 :: c123 :: c124 :: c125 :: c126 :: []), []⟩ wx)) :
    (Code.loop body_wrb).wp Try.prog Q ⟨List.toArray (c0 :: c1 :: (.slice Ab bs.length cb) :: c3 :: c4 :: c5 :: c6 :: c7 :: c8 :: c9 :: c10 :: (.pointer (some ⟨C, 0, none⟩)) :: (.int .i64 0) :: c13 :: c14 :: c15 :: c16 :: c17 :: c18 :: c19 :: c20 :: c21 :: c22 :: c23 :: c24 :: c25 :: c26 :: c27 :: c28 :: c29 :: c30 :: c31 :: c32 :: c33 :: c34 :: c35 :: c36 :: c37 :: c38 :: c39 :: c40 :: c41 :: c42 :: c43 :: c44 :: c45 :: c46 :: c47 :: c48 :: c49 :: c50 :: c51 :: c52 :: c53 :: c54 :: c55 :: c56 :: c57 :: c58 :: c59 :: c60 :: c61 :: c62 :: c63 :: c64 :: c65 :: c66 :: c67 :: c68 :: c69 :: c70 :: c71 :: c72 :: c73 :: c74 :: c75 :: c76 :: c77 :: c78 :: c79 :: c80 :: c81 :: c82 :: c83 :: c84 :: c85 :: c86 :: c87 :: c88 :: c89 :: c90 :: c91 :: c92 :: c93 :: c94 :: c95 :: c96 :: c97 :: c98 :: c99 :: c100 :: c101 :: c102 :: c103 :: c104 :: c105 :: c106 :: c107 :: c108 :: c109 :: c110 :: c111 :: c112 :: c113 :: c114 :: c115 :: c116 :: c117 :: c118 :: c119 :: c120 :: c121 :: c122 :: c123 :: c124 :: c125 :: c126 :: []), []⟩ w := by
  have nI : (bs.length : Int) ≤ 128 := by omega
  have HN := Lib.hid hl
  have HNE := Lib.hid hCZ
  clear hl hCZ
  unfold body_wrb
  conv => arg 2; arg 1; whnf
  go_loopw [12] (fun v wx => WrbRel bs Z w v wx) (fun v _ => bs.length - (intOf v).toNat)
  case atStart => exact ⟨0, rfl, Nat.zero_le _, by rw [mixZ_zero]; exact h0.out, Sole.refl _ _⟩
  case round =>
    obtain ⟨k, rfl, hk, hblk, so⟩ := hrel
    by_cases hlt : k < bs.length
    · have hI : (k : Int) < bs.length := by omega
      have hI2 : (k : Int) < 128 := by omega
      obtain ⟨y, hy⟩ : ∃ y, y = bs[k] := ⟨_, rfl⟩
      have hfm : ∃ b off, Ab = some ⟨b, off, none⟩ ∧ w.cell? ⟨b, off + k, none⟩ = some (.int .u8 (y.toNat : Int)) := by
        rcases hr.out with ⟨_, _, h1, _, _, h4⟩ | ⟨b, off, _, h1, _, _, _, h5⟩
        · rw [h4] at hlt; simp at hlt
        · injection h1 with e1 _ _
          exact ⟨b, off, e1, by rw [h5 k hlt, hy]⟩
      obtain ⟨b, off, rfl, hcb⟩ := hfm
      have hbz : b ≠ Z := hne.out (by omega) _ rfl
      have cA : ∀ m, (wr.drewN m).cell? ⟨b, off + k, none⟩ = some (.int .u8 (y.toNat : Int)) := fun m => by
        rw [← hcb]
        exact so.cell (p := ⟨b, off + k, none⟩) hbz
      have cB : ∀ m, (wr.drewN m).cell? ⟨C, 1, none⟩ = some (.slice (some ⟨Z, 0, none⟩) 128 128) := fun m => by
        rw [← hc.out]
        exact so.cell (p := ⟨C, 1, none⟩) HNE.out
      have cZ : ∀ m, (wr.drewN m).cell? ⟨Z, k, none⟩ = some (.int .u8 0) := fun m => by
        rw [(hblk.drewN m).cell, List.getElem?_map, mixZ_get hlt HN.out]
        rfl
      have HST : Hid (∀ nq, Blk ((wr.drewN nq).setCell ⟨Z, k, none⟩ (.int .u8 (y.toNat : Int))) Z 5 ((mixZ bs (k + 1)).map bv)) := Lib.hid fun nq => by
        have h := (hblk.drewN nq).set k (bv bs[k])
        rw [← List.map_set, mixZ_set hlt HN.out, ← hy] at h
        exact h
      have HSO : Hid (∀ nq, Sole w ((wr.drewN nq).setCell ⟨Z, k, none⟩ (.int .u8 (y.toNat : Int))) Z) := Lib.hid fun nq => so.trans (sole_set_drewN' wr Z k nq _)
      have f6 : ∀ nq, (wr.drewN nq).frozen? ⟨Z, k, none⟩ = false := fun nq => (hblk.drewN nq).free k
      have HLT := Lib.hid hlt
      clear hy hblk so hk hlt hcb hbz
      go_wp2_with (fail)
      refine wp_quiet_tail 8 (by kernel_rfl) (by kernel_rfl) (by kernel_rfl) (by kernel_rfl) (by kernel_rfl) (by kernel_rfl) (by kernel_rfl) (by kernel_rfl) ?_
      simp only [List.take_succ_cons, List.take_zero, List.drop_succ_cons, List.drop_zero]
      repeat (go_big_quiet_step (fail))
      refine wpQuiet_nil ?_
      intro wq hwq
      obtain ⟨nq, rfl⟩ := hwq
      go_wp2_with (fail)
      have hlt := HLT.out
      refine ⟨⟨k + 1, by go_num, by omega, HST.out nq, HSO.out nq⟩, by simp [intOf]; omega⟩
    · obtain rfl : k = bs.length := by omega
      have HB : Hid (Blk wr Z 5 ((pad128 bs).map bv)) := Lib.hid (by rw [← mixZ_all]; exact hblk)
      have HL := Lib.hid so
      clear hblk so hk hlt
      go_wp2_with (fail)
      exact HQ.out _ _ _ _ _ _ _ _ _ _ _ _ _ _ _ _ HB HL
end Go.Proofs.Ytkgbfghlonennaa

/- The ninth reference's Write: what an insertion and what a stored sector make of the disk. Conditions: the disk is as a disk is. -/
namespace Go.Proofs.Ytkgbfghlonennaa
open Go.RowKit

theorem no_plc {L : List Pl} {k : Int} (h : ¬ findL L k < L.length) : ∀ p ∈ L, (p.plc : Int) ≠ k := by
  intro p hp
  have h1 : findL L k = L.length := Nat.le_antisymm List.findIdx_le_length (by omega)
  unfold findL at h1
  rw [List.findIdx_eq_length] at h1
  simpa using h1 p hp
theorem take_lt {L : List Pl} {k : Nat} : ∀ p ∈ L.take (tw L k), p.plc < k := by
  intro p hp
  obtain ⟨j, hj, rfl⟩ := List.getElem_of_mem hp
  rw [List.length_take] at hj
  have h2 := List.not_of_lt_findIdx (p := fun p : Pl => !decide (p.plc < k)) (xs := L) (i := j) (by show j < tw L k; omega)
  simpa using h2
theorem drop_gt {L : List Pl} {k : Nat} (hr : L.Pairwise fun p q => p.plc < q.plc) (hno : ∀ p ∈ L, (p.plc : Int) ≠ k) : ∀ p ∈ L.drop (tw L k), k < p.plc := by
  intro p hp
  obtain ⟨j, hj, rfl⟩ := List.getElem_of_mem hp
  rw [List.length_drop] at hj
  have hl : tw L k < L.length := by omega
  have hw : L.findIdx (fun p : Pl => !decide (p.plc < k)) < L.length := hl
  have h2 := List.findIdx_getElem (w := hw)
  have h6 : (!decide ((L[tw L k]'hl).plc < k)) = true := h2
  have h3 : ¬ (L[tw L k]'hl).plc < k := by simpa using h6
  have h4 := hno _ (List.getElem_mem hl)
  rw [List.getElem_drop]
  rw [List.pairwise_iff_getElem] at hr
  by_cases e : j = 0
  · subst e
    simp only [Nat.add_zero]
    omega
  · have h5 := hr (tw L k) (tw L k + j) hl (by omega) (by omega)
    omega
theorem insP_eq (L : List Pl) (k : Nat) : insP L k = L.take (tw L k) ++ blank k :: L.drop (tw L k) := by
  unfold insP
  rw [tw_take, tw_drop]
theorem insP_ok {S S' : DS} {k : Nat} (h : DOk S) (hk : k < 1024) (hno : ¬ findL S.L k < S.L.length) (hL : S'.L = insP S.L k) : DOk S' := by
  have hr := h.rise
  rw [← List.take_append_drop (tw S.L k) S.L, List.pairwise_append] at hr
  have hz : z128.length = 128 := by simp [z128]
  refine ⟨?_, ?_, ?_⟩
  · rw [hL, insP_eq]
    intro p hp
    rcases List.mem_append.1 hp with h1 | h1
    · exact h.low p (List.mem_of_mem_take h1)
    · rcases List.mem_cons.1 h1 with h2 | h2
      · rw [h2]; exact hk
      · exact h.low p (List.mem_of_mem_drop h2)
  · rw [hL, insP_eq, List.pairwise_append]
    refine ⟨hr.1, List.pairwise_cons.2 ⟨fun q hq => drop_gt h.rise (no_plc hno) q hq, hr.2.1⟩, fun p hp q hq => ?_⟩
    rcases List.mem_cons.1 hq with h2 | h2
    · rw [h2]; exact take_lt p hp
    · exact hr.2.2 p hp q h2
  · rw [hL, insP_eq]
    intro p hp
    rcases List.mem_append.1 hp with h1 | h1
    · exact h.full p (List.mem_of_mem_take h1)
    · rcases List.mem_cons.1 h1 with h2 | h2
      · rw [h2]; exact ⟨hz, hz⟩
      · exact h.full p (List.mem_of_mem_drop h2)
theorem withP_found (L : List Pl) (k : Nat) : findL (withP L k) k < (withP L k).length := by
  unfold withP
  split
  · assumption
  · unfold findL
    rw [List.findIdx_lt_length]
    exact ⟨blank k, by rw [insP_eq]; simp, by simp [blank]⟩
/-- Blocks that were, and such as have come since. -/
def Since (F : Nat → Prop) (w w' : World) (j : Nat) : Prop := F j ∨ (w.heap.size ≤ j ∧ j < w'.heap.size)
theorem RefIs.mono {w : World} {X : Nat} {S : DS} {F G : Nat → Prop} {v : Value} {Q : List PV} (h : RefIs w X S F v Q) (hFG : ∀ k, F k → G k) (hG : ∀ k, G k → k < w.heap.size) : RefIs w X S G v Q :=
  ⟨h.blk, h.row, h.pls, hFG _ h.fx, fun k hk => ⟨hFG _ (h.fv k hk).1, (h.fv k hk).2⟩, fun q hq => ⟨(h.ok q hq).now, (h.ok q hq).was, fun k hk => ⟨hFG _ ((h.ok q hq).fn k hk).1, ((h.ok q hq).fn k hk).2⟩, fun k hk => ⟨hFG _ ((h.ok q hq).fw k hk).1, ((h.ok q hq).fw k hk).2⟩⟩, hG, h.good, h.fz, h.os⟩
theorem OwnR.mono {n : Nat} {w : World} {base base' : Nat} {e : TypeId} {v : Value} {R : List (List Value)} (h : OwnR n w base e v R) (hb : base' ≤ base) : OwnR n w base' e v R :=
  ⟨h.1, h.2.1, h.2.2.imp id fun ⟨g, cap, cur, h1, h2, h3⟩ => ⟨g, cap, cur, h1, Nat.le_trans hb h2, h3⟩⟩
/-- What only new blocks have changed. -/
theorem Chg.new (F : Nat → Prop) {w w' : World} (h : Chg (fun j => w.heap.size ≤ j) w w') : Chg F w w' := ⟨h.os, h.tape, h.output, h.size, fun k hk _ => h.keep k hk (by omega)⟩
def zsl (Z : Nat) : Value := .slice (some ⟨Z, 0, none⟩) 128 128
/-- A sector comes into the list: a new row, two new zeros. -/
theorem RefIs.insert {w w1 w2 : World} {X : Nat} {S : DS} {F : Nat → Prop} {v : Value} {Q : List PV} {k : Nat} (h : RefIs w X S F v Q) (hk : k < 1024) (hno : ¬ findL S.L k < S.L.length) {v1 : Value} {Z1 Z2 : Nat}
    (hb : Below w.heap.size w w1) (hs : Sole w1 w2 X) (hX : Blk w2 X 30 [v1, .int .i64 (S.fuse : Int), .bool S.dead, .int .i64 (S.ops : Int)])
    (hrow : OwnR 6 w1 w.heap.size 40 v1 ((Q.take (tw S.L k) ++ ⟨blank k, zsl Z1, zsl Z2⟩ :: Q.drop (tw S.L k)).map PV.cells))
    (hz1 : Blk w1 Z1 5 (z128.map bv)) (hz2 : Blk w1 Z2 5 (z128.map bv)) (h1 : w.heap.size ≤ Z1) (h2 : w.heap.size ≤ Z2) (n1 : v1.ownBlock ≠ some Z1) (n2 : v1.ownBlock ≠ some Z2) :
    RefIs w2 X { S with L := insP S.L k } (Since F w w2) v1 (Q.take (tw S.L k) ++ ⟨blank k, zsl Z1, zsl Z2⟩ :: Q.drop (tw S.L k)) ∧ Chg (fun j => j = X) w w2 := by
  have hXl := h.fl X h.fx
  have hXC : Chg (fun j => j = X) w1 w2 := sole_chg hs rfl
  have hC1 : Chg (fun j => w.heap.size ≤ j) w w1 := Chg.of_below hb
  have hsz := hs.size
  have hrl := hrow.lt
  have K : ∀ Z, Blk w1 Z 5 (z128.map bv) → w.heap.size ≤ Z → v1.ownBlock ≠ some Z → Rd w2 (zsl Z) z128 ∧ ∀ j, (zsl Z).ownBlock = some j → Since F w w2 j ∧ j ≠ X ∧ v1.ownBlock ≠ some j := fun Z hZ hl hn =>
    ⟨hXC.rd (z128_rd hZ) fun j hj e => by
      have : Z = j := by simpa [zsl, Value.ownBlock] using hj
      omega, fun j hj => by
      have e : Z = j := by simpa [zsl, Value.ownBlock] using hj
      subst e
      exact ⟨.inr ⟨hl, by have := hZ.lt; omega⟩, by omega, hn⟩⟩
  have O : ∀ q ∈ Q, PvOk w2 (Since F w w2) X v1 q := fun q hq => by
    have hq1 := h.ok q hq
    have tr : ∀ u xs, Rd w u xs → (∀ j, u.ownBlock = some j → F j ∧ j ≠ X ∧ v.ownBlock ≠ some j) → Rd w2 u xs ∧ ∀ j, u.ownBlock = some j → Since F w w2 j ∧ j ≠ X ∧ v1.ownBlock ≠ some j := fun u xs hu hf =>
      ⟨hXC.rd (hC1.rd hu fun j hj => by have := h.fl j (hf j hj).1; omega) fun j hj => (hf j hj).2.1, fun j hj => ⟨.inl (hf j hj).1, (hf j hj).2.1, fun e => by
        have := (hrl j e).1
        have := h.fl j (hf j hj).1
        omega⟩⟩
    exact ⟨(tr _ _ hq1.now hq1.fn).1, (tr _ _ hq1.was hq1.fw).1, (tr _ _ hq1.now hq1.fn).2, (tr _ _ hq1.was hq1.fw).2⟩
  refine ⟨⟨hX, (hXC.ownR hrow fun j hj e => by have := (hrl j hj).1; omega).mono (Nat.zero_le _), ?_, .inl h.fx, fun j hj => ⟨.inr ⟨(hrl j hj).1, by have := (hrl j hj).2; omega⟩, by have := (hrl j hj).1; omega⟩, ?_, ?_, insP_ok h.good hk hno rfl, h.fz, h.os⟩, ?_⟩
  · rw [List.map_append, List.map_cons, List.map_take, List.map_drop, h.pls]
    exact (insP_eq S.L k).symm
  · intro q hq
    rcases List.mem_append.1 hq with h3 | h3
    · exact O q (List.mem_of_mem_take h3)
    · rcases List.mem_cons.1 h3 with h4 | h4
      · subst h4
        exact ⟨(K Z1 hz1 h1 n1).1, (K Z2 hz2 h2 n2).1, (K Z1 hz1 h1 n1).2, (K Z2 hz2 h2 n2).2⟩
      · exact O q (List.mem_of_mem_drop h4)
  · rintro j (hj | hj)
    · have := h.fl j hj
      have := hb.size
      omega
    · exact hj.2
  · exact (Chg.new _ hC1).trans (hXC.mono fun j e => .inl e)
end Go.Proofs.Ytkgbfghlonennaa

/- The ninth reference's Write: a row's piece; a sector stored whole; what is built. Conditions: the disk is as a disk is. -/
namespace Go.Proofs.Ytkgbfghlonennaa
open Go.RowKit

/-- A row from a place on. -/
theorem OwnR.low {n : Nat} {w : World} {base : Nat} {e : TypeId} {v : Value} {R : List (List Value)} (h : OwnR n w base e v R) {P : Program} (t : TypeId) (i : TypeInfo) (ht : P.underlying t = some (.slice e)) (hi : P.info? e = some i) (h1 : i.size = n) (k : Nat) (hk : k ≤ R.length) :
    ∃ vx, (∀ W, (Instr.slice t v (some (.int .i64 (k : Int))) none none).run P W = .ok vx W) ∧ ((vx = .slice none 0 0 ∧ R.drop k = []) ∨ ∃ b off c, vx = .slice (some ⟨b, off, none⟩) (R.drop k).length c ∧ v.ownBlock = some b ∧ ∀ i j, i < (R.drop k).length → j < n → w.cell? ⟨b, off + (i * n + j), none⟩ = ((R.drop k).getD i [])[j]?) := by
  have e1 : P.elem t = e := by simp [Program.elem, ht]
  have ht' : P.underlying t = some (.slice (P.elem t)) := by rw [e1]; exact ht
  have hsz : ∀ W, (sizeOf e).run P W = .ok n W := fun W => by simp [sizeOf, typeInfo, hi, h1]
  obtain ⟨A, c, rfl, h2, h3, h4⟩ := h.form
  refine ⟨.slice (if c = k then A else A.map (·.add (k * n))) (R.length - k) (c - k), fun W => ?_, ?_⟩
  · rw [run_slice_l W t A R.length c ht' .i64 (k : Int) (by omega) (by omega), e1, hsz]
    simp [sliced]
  rcases h.2.2 with ⟨h5, h6⟩ | ⟨g, cap, cur, hv, hb, hg, hn, hm, _, _⟩
  · injection h5 with a1 a2 a3
    subst a1 a3
    obtain rfl : k = 0 := by omega
    left
    rw [h6]
    refine ⟨by simp, ?_⟩
    rw [List.drop_eq_nil_of_le (by omega)]
  · injection hv with a1 _ a3
    subst a1 a3
    right
    by_cases hc : c = k
    · refine ⟨g, 0, c - k, ?_, rfl, fun i j hi2 hj => ?_⟩
      · rw [List.length_drop, if_pos hc]
      · rw [List.length_drop] at hi2
        omega
    · refine ⟨g, k * n, c - k, ?_, rfl, fun i j hi2 hj => ?_⟩
      · rw [List.length_drop, if_neg hc, Option.map_some, Addr.add_mid, Nat.zero_add]
      · rw [List.length_drop] at hi2
        have e2 : k * n + (i * n + j) = (k + i) * n + j := by rw [Nat.add_mul]; omega
        rw [e2, h.cell (k + i) j (by omega) hj, List.getD, List.getD, List.getElem?_drop]
theorem built_place (n Z1 Z2 : Nat) : Try.prog.built 40 [(0, .int .i64 (n : Int)), (1, zsl Z1), (2, zsl Z2)] = some (PV.cells ⟨blank n, zsl Z1, zsl Z2⟩).toArray := by kernel_rfl
/-- A sector is stored whole, behind what only new blocks have changed. -/
theorem RefIs.putAll {w w5 : World} {X : Nat} {S : DS} {F : Nat → Prop} {Q : List PV} {g m c : Nat} (h : RefIs w X S F (.slice (some ⟨g, 0, none⟩) m c) Q) (hC : Chg (fun j => w.heap.size ≤ j) w w5) {i : Nat} (hi : i < Q.length) (q : PV)
    (hnow : Rd w5 q.vn q.p.now) (hwas : Rd w5 q.vw q.p.was) (fn : ∀ k, q.vn.ownBlock = some k → (F k ∨ (w.heap.size ≤ k ∧ k < w5.heap.size)) ∧ k ≠ X ∧ k ≠ g) (fw : ∀ k, q.vw.ownBlock = some k → (F k ∨ (w.heap.size ≤ k ∧ k < w5.heap.size)) ∧ k ≠ X ∧ k ≠ g)
    (hp : q.p.plc = Q[i].p.plc) (hn : q.p.now.length = 128) (hw : q.p.was.length = 128) {S' : DS} (hL : S'.L = S.L.set i q.p) (hf : S'.fuse = S.fuse) (hd : S'.dead = S.dead) (ho : S'.ops = S.ops) :
    RefIs (w5.setCells g (i * 6) q.cells) X S' (Since F w (w5.setCells g (i * 6) q.cells)) (.slice (some ⟨g, 0, none⟩) m c) (Q.set i q) ∧ Chg (fun j => j = g) w (w5.setCells g (i * 6) q.cells) := by
  have hs : Sole w5 (w5.setCells g (i * 6) q.cells) g := Sole.setCells g _ _ w5
  obtain ⟨w6, hw6⟩ : ∃ w6, w6 = w5.setCells g (i * 6) q.cells := ⟨_, rfl⟩
  obtain ⟨hg1, hg2⟩ := h.fv g rfl
  have hgl := h.fl g hg1
  have hXl := h.fl X h.fx
  have hsz := hs.size
  have cG : Chg (fun j => j = g) w5 (w5.setCells g (i * 6) q.cells) := sole_chg hs rfl
  have hiS : i < S.L.length := by rw [← h.len]; exact hi
  have hrow := (hC.ownR h.row fun j hj => by have := h.fl j (h.fv j hj).1; omega).put (i := i) (by simpa using hi) (l := q.cells) rfl
  rw [← List.map_set] at hrow
  rw [← hw6] at hs hsz cG hrow ⊢
  have O : ∀ u xs, Rd w5 u xs → (∀ k, u.ownBlock = some k → (F k ∨ (w.heap.size ≤ k ∧ k < w5.heap.size)) ∧ k ≠ X ∧ k ≠ g) → Rd w6 u xs ∧ ∀ k, u.ownBlock = some k → Since F w w6 k ∧ k ≠ X ∧ (Value.slice (some ⟨g, 0, none⟩) m c).ownBlock ≠ some k := fun u xs hu hfu =>
    ⟨cG.rd hu fun k hk => (hfu k hk).2.2, fun k hk => by
      obtain ⟨h1, h2, h3⟩ := hfu k hk
      refine ⟨h1.imp id fun h4 => ⟨h4.1, by omega⟩, h2, fun e => h3 ?_⟩
      have : g = k := by simpa [Value.ownBlock] using e
      exact this.symm⟩
  have N : ∀ q : PV, Rd w5 q.vn q.p.now → Rd w5 q.vw q.p.was → (∀ k, q.vn.ownBlock = some k → (F k ∨ (w.heap.size ≤ k ∧ k < w5.heap.size)) ∧ k ≠ X ∧ k ≠ g) → (∀ k, q.vw.ownBlock = some k → (F k ∨ (w.heap.size ≤ k ∧ k < w5.heap.size)) ∧ k ≠ X ∧ k ≠ g) → PvOk w6 (Since F w w6) X (.slice (some ⟨g, 0, none⟩) m c) q := fun q a b c' d =>
    ⟨(O _ _ a c').1, (O _ _ b d).1, (O _ _ a c').2, (O _ _ b d).2⟩
  refine ⟨⟨?_, hrow, ?_, .inl h.fx, fun k hk => ⟨.inl (h.fv k hk).1, (h.fv k hk).2⟩, ?_, ?_, h.good.put hiS (by rw [hp, ← h.at hi]) hn hw hL, by rw [hf]; exact h.fz, by rw [ho]; exact h.os⟩, ?_⟩
  · rw [hf, hd, ho]
    exact cG.blk (hC.blk h.blk (by omega)) fun e => hg2 e.symm
  · rw [List.map_set, h.pls, hL]
  · intro r hr
    rcases List.mem_or_eq_of_mem_set hr with h1 | h1
    · have hr1 := h.ok r h1
      have G : ∀ u : Value, (∀ k, u.ownBlock = some k → F k ∧ k ≠ X ∧ (Value.slice (some ⟨g, 0, none⟩) m c).ownBlock ≠ some k) → ∀ k, u.ownBlock = some k → (F k ∨ (w.heap.size ≤ k ∧ k < w5.heap.size)) ∧ k ≠ X ∧ k ≠ g := fun u hu k hk => ⟨.inl (hu k hk).1, (hu k hk).2.1, fun e => (hu k hk).2.2 (by rw [e]; rfl)⟩
      exact N r (hC.rd hr1.now fun k hk => by have := h.fl k (hr1.fn k hk).1; omega) (hC.rd hr1.was fun k hk => by have := h.fl k (hr1.fw k hk).1; omega) (G _ hr1.fn) (G _ hr1.fw)
    · rw [h1]
      exact N q hnow hwas fn fw
  · rintro k (hk | hk)
    · have := h.fl k hk
      have := hC.size
      omega
    · exact hk.2
  · exact (Chg.new _ hC).trans (cG.mono fun j e => .inl e)
end Go.Proofs.Ytkgbfghlonennaa

/- The ninth reference's Write: contract. Conditions: the disk is as a disk is; fewer than a million changes; the bytes lie in no block of the disk's. -/
namespace Go.Proofs.Ytkgbfghlonennaa
open Go.RowKit

def zPlace : List Value := [.int .i64 0, .slice none 0 0, .slice none 0 0, .bool false, .bool false, .bool false]
theorem modify_set {α : Type _} (L : List α) (f : α → α) (i : Nat) (h : i < L.length) : L.modify i f = L.set i (f L[i]) := by
  apply List.ext_getElem?
  intro j
  rw [List.getElem?_modify, List.getElem?_set]
  by_cases e : i = j
  · subst e
    simp [h]
  · simp [e]
theorem writeL_set {L L' : List Pl} {n i : Nat} {bs : List UInt8} (hL : L' = withP L n) (hi : i = findL L' n) (h : i < L'.length) : writeL L n bs = L'.set i (putP L'[i] bs) := by
  subst hL hi
  unfold writeL
  exact modify_set _ _ _ h
/-- The row of a disk with a sector that is new, put together. -/
theorem row_in {L : List Pl} {Q : List PV} {k : Nat} {q : PV} : (Q.take (tw L k)).map PV.cells ++ [q.cells] ++ ((Q.map PV.cells).drop (tw L k)) = ((Q.take (tw L k) ++ q :: Q.drop (tw L k)).map PV.cells) := by
  rw [List.map_append, List.map_cons, List.append_assoc, List.map_drop]
  rfl
set_option maxRecDepth 100000 in
set_option maxHeartbeats 4000000 in
theorem refWrite_in {w : World} {X : Nat} {S : DS} {F : Nat → Prop} {v : Value} {Q : List PV} (h : RefIs w X S F v Q) (n : Nat) (hn : n < 1024) {Ab : Option Addr} {cb : Nat} {bs : List UInt8} (hr : Rd w (.slice Ab bs.length cb) bs) (hl : bs.length ≤ 128) (hd : S.dead = false) (ho : S.ops < 1000000) (hb : 0 < bs.length → ∀ ad, Ab = some ad → ad.block < w.heap.size ∧ ¬ F ad.block) {Post : Ending → World → Prop}
    (HP : Hid (∀ w' F' v' Q', RefIs w' X (burnS { S with L := writeL S.L n bs }).1 F' v' Q' → (∀ j, F' j → F j ∨ w.heap.size ≤ j) → (∀ j, v'.ownBlock = some j → v.ownBlock = some j ∨ w.heap.size ≤ j) → Chg (Wrt X v) w w' → Post (.returned (.int .i64 (if (burnS { S with L := writeL S.L n bs }).2 then 10 else 0))) w')) :
    Calls Try.prog 27 #[.pointer (some ⟨X, 0, none⟩), .int .i64 (n : Int), .slice Ab bs.length cb] w Post := by
  obtain ⟨ip, hip, hpz, hps, hpb⟩ := inf_of info_place
  have HIPS : Hid ((Try.prog.info? 40).map (·.size) = some 6) := Lib.hid (siz_of info_place)
  have HR := Lib.hid h
  have HRb0 := Lib.hid hr
  have HB := Lib.hid hb
  have HO := Lib.hid ho
  have HLn := Lib.hid hl
  have HN := Lib.hid hn
  have nI : (n : Int) < 1024 := by omega
  have g1 : decide ((n : Int) < 0) = false := decide_eq_false (by omega)
  have g2 : decide (1024 ≤ (n : Int)) = false := decide_eq_false (by omega)
  have bI : (bs.length : Int) ≤ 128 := by omega
  have c2 : w.cell? ⟨X, 2, none⟩ = some (.bool false) := by rw [h.blk.cell, hd]; rfl
  have cv : w.cell? ⟨X, 0, none⟩ = some v := by rw [h.blk.cell]; rfl
  have HF := Lib.hid (refFind_any h (n : Int))
  obtain ⟨S1, hS1⟩ : ∃ S1, S1 = { S with L := withP S.L n } := ⟨_, rfl⟩
  obtain ⟨O, hO⟩ : ∃ O : Nat → Prop, O = Wrt X v := ⟨_, rfl⟩
  have HOX : Hid (O X) := Lib.hid (by rw [hO]; exact .inl rfl)
  have HOV : Hid (∀ j, v.ownBlock = some j → O j) := Lib.hid fun j hj => by rw [hO]; exact .inr hj
  have HP2 : Hid (∀ w' F' v' Q', RefIs w' X (burnS { S with L := writeL S.L n bs }).1 F' v' Q' → (∀ j, F' j → F j ∨ w.heap.size ≤ j) → (∀ j, v'.ownBlock = some j → O j ∨ w.heap.size ≤ j) → Chg O w w' → Post (.returned (.int .i64 (if (burnS { S with L := writeL S.L n bs }).2 then 10 else 0))) w') := Lib.hid fun w' F' v' Q' h1 h2 h3 h4 =>
    HP.out w' F' v' Q' h1 h2 (fun j hj => (h3 j hj).imp (fun ho => by rw [hO] at ho; exact ho.elim (fun e => absurd e (h1.fv j hj).2) id) id) (by rw [hO] at h4; exact h4)
  clear h hr hb ho hl hn hd hO HP
  by_cases hfnd : findL S.L n < S.L.length
  case' pos =>
    have eF : findI S.L n = ((findL S.L n : Nat) : Int) := by unfold findI; rw [if_pos hfnd]
    rw [eF] at HF
    have e1 : S1 = S := by rw [hS1]; unfold withP; rw [if_pos hfnd]
    obtain ⟨F1, HF1e⟩ : ∃ F1, F1 = F := ⟨_, rfl⟩
    obtain ⟨v1, hv1⟩ : ∃ v1, v1 = v := ⟨_, rfl⟩
    obtain ⟨Q1, hQ1⟩ : ∃ Q1, Q1 = Q := ⟨_, rfl⟩
    obtain ⟨wc, hwc⟩ : ∃ wc, wc = w := ⟨_, rfl⟩
    have HR1 : Hid (RefIs wc X S1 F1 v1 Q1) := Lib.hid (by rw [hwc, e1, HF1e, hv1, hQ1]; exact HR.out)
    have HF1 : Hid (∀ j, F1 j → F j ∨ w.heap.size ≤ j) := Lib.hid fun j hj => .inl (HF1e ▸ hj)
    have HV1 : Hid (∀ j, v1.ownBlock = some j → O j ∨ w.heap.size ≤ j) := Lib.hid fun j hj => .inl (HOV.out j (hv1 ▸ hj))
    have HC1 : Hid (Chg O w wc) := Lib.hid (by rw [hwc]; exact Chg.refl _ w)
    have HRb : Hid (Rd wc (.slice Ab bs.length cb) bs) := Lib.hid (hwc ▸ HRb0.out)
    have HG1 : Hid (∀ j, F j → F1 j) := Lib.hid fun j hj => HF1e ▸ hj
    clear HF1e hv1 hQ1 e1 eF hfnd HRb0
    go_enter Try.func27, Try.ntmps27
    go_wp2_with (fail)
    refine HF.out.mono ?_
    rintro e wx ⟨rfl, hwx⟩
    rw [hwx]
    clear hwx wx
    go_wp2_with (fail)
    rw [← hwc]
    clear cv c2 hwc HF
  case' neg =>
    have eF : findI S.L n = -1 := by unfold findI; rw [if_neg hfnd]
    rw [eF] at HF
    obtain ⟨A, c, rfl, hc1, hc2, hA⟩ := HR.out.form
    have HNF := Lib.hid hfnd
    obtain ⟨m, hm⟩ : ∃ m, m = tw S.L n := ⟨_, rfl⟩
    have HM := Lib.hid hm
    have HML : Hid (m ≤ Q.length) := Lib.hid (by rw [hm, HR.out.len]; exact tw_le _ _)
    have QL : Hid (Q.length ≤ 1024) := Lib.hid (by have := HR.out.good.length; have := HR.out.len; omega)
    have EN : Hid (((Q.take m).map PV.cells).length = m) := Lib.hid (by have := HML.out; simp; omega)
    obtain ⟨vx, hvx, hlow⟩ := HR.out.row.low 28 ip Try.underlying28 hip hps m (by rw [List.length_map]; exact HML.out)
    have HLOW := Lib.hid hlow
    have HX0 := Lib.hid HR.out.blk
    have HXl : Hid (X < w.heap.size) := Lib.hid (HR.out.fl X HR.out.fx)
    clear hc1 hc2 hA eF hfnd hlow
    go_enter Try.func27, Try.ntmps27
    go_wp2_with (fail)
    refine HF.out.mono ?_
    rintro e wx ⟨rfl, hwx⟩
    rw [hwx]
    clear hwx wx
    go_wp2_with (fail)
    refine wra_loop _ _ _ _ _ _ _ _ _ _ _ _ _ _ _ _ _ _ _ _ _ _ _ _ _ _ _ _ _ _ _ _ _ _ _ _ _ _ _ _ _ _ _ _ _ _ _ _ _ _ _ _ _ _ _ _ _ _ _ _ _ _ _ _ _ _ _ _ _ _ _ _ _ _ _ _ _ _ _ _ _ _ _ _ _ _ _ _ _ _ _ _ _ _ _ _ _ _ _ _ _ _ _ _ _ _ _ _ _ _ _ _ _ _ _ _ _ _ _ _ _ _ _ n w HR (Lib.hid ?_)
    intro u30 u31 u32 u33 u34 u35 u36 u37 u38 u39 u40 u41 u42 u43 u44 u45 u46 u47 u48 u49 u50 u51 u52 u53 u54 u55 u56 u57 u58 u59 u60 o w2 hown hbel
    rw [← hm] at hown ⊢
    clear hm HF cv c2
    have ho2 : ∃ Ao co, o = .slice Ao m co := by
      obtain ⟨Ao, co, e, _⟩ := hown.out.form
      rw [EN.out] at e
      exact ⟨Ao, co, e⟩
    obtain ⟨Ao, co, rfl⟩ := ho2
    have mI : (m : Int) ≤ 1024 := by have := HML.out; have := QL.out; omega
    go_wp2_with (fail)
    refine (refZero_any _).mono ?_
    rintro e w3 ⟨rfl, hz1, hb3⟩
    have HZ1 := Lib.hid hz1
    have HB3 := Lib.hid hb3
    clear hz1 hb3
    go_wp2_with (fail)
    refine (refZero_any _).mono ?_
    rintro e w4 ⟨rfl, hz2, hb4⟩
    have HZ2 := Lib.hid hz2
    have HB4 := Lib.hid hb4
    clear hz2 hb4
    have B24 : Hid (Below w.heap.size w w4) := Lib.hid (hbel.out.trans ((HB3.out.mono hbel.out.size).trans (HB4.out.mono (Nat.le_trans hbel.out.size HB3.out.size))))
    have OW4 : Hid (OwnR 6 w4 w.heap.size 40 (.slice Ao m co) ((Q.take m).map PV.cells)) := Lib.hid (by
      have c3 := Chg.of_below HB3.out
      have c4 := Chg.of_below HB4.out
      have hlt := hown.out.lt
      have s3 := HB3.out.size
      exact c4.ownR (c3.ownR hown.out fun j hj => by have := (hlt j hj).2; omega) fun j hj => by have := (hlt j hj).2; omega)
    obtain ⟨l, hl⟩ : ∃ l, l = PV.cells ⟨blank n, zsl w2.heap.size, zsl w3.heap.size⟩ := ⟨_, rfl⟩
    have HBT : Hid (Try.prog.built 40 [(0, .int .i64 (n : Int)), (1, .slice (some ⟨w2.heap.size, 0, none⟩) 128 128), (2, .slice (some ⟨w3.heap.size, 0, none⟩) 128 128)] = some l.toArray) := Lib.hid (by rw [hl]; exact built_place n _ _)
    have LL : Hid (l.length = 6) := Lib.hid (by rw [hl]; rfl)
    have L1 : Hid (∀ u ∈ l, u.oneCell' = true) := Lib.hid (by
      rw [hl]
      intro u hu
      simp only [PV.cells, List.mem_cons, List.not_mem_nil, or_false] at hu
      rcases hu with rfl | rfl | rfl | rfl | rfl | rfl <;> rfl)
    have NR : Hid (((Q.take m).map PV.cells).length + 1 ≤ maxLen ∧ (((Q.take m).map PV.cells).length + 1) * 64 ≤ 140737488355328) := Lib.hid (by have := HML.out; have := QL.out; rw [EN.out]; unfold maxLen; omega)
    have HLL := Lib.hid hl
    clear hl
    go_upto_region 15 with (first
      | ((with_reducible refine here_build ?_); refine wpList_build_it rfl 40 _ rfl _ rfl _ HBT.out ?_)
      | ((with_reducible refine here_slices ?_); refine wpList_build_elR rfl 28 40 _ rfl ip _ 6 Try.underlying28 hip hpz hps (by decide) (by decide) l LL.out rfl ?_)
      | (at_builtin
         refine wpList_append_elR _ l _ rfl _ _ _ rfl w.heap.size 40 ip _ 6 64 Try.underlying28 hip hpz hps hpb (by simp [Value.cells]) (by decide) (.slice Ao m co) _ rfl OW4.out LL.out L1.out rfl NR.out.1 NR.out.2 B24.out.size ?_
         intro v5 w5 own5 nx5
         have OW5 := Lib.hid own5
         have NX5 := Lib.hid nx5
         clear own5 nx5))
    have X4 : Hid (Blk w4 X 30 [.slice A Q.length c, .int .i64 (S.fuse : Int), .bool S.dead, .int .i64 (S.ops : Int)]) := Lib.hid ((Chg.of_below B24.out).blk HX0.out (by have := HXl.out; omega))
    have X5 : Hid (Blk w5 X 30 [.slice A Q.length c, .int .i64 (S.fuse : Int), .bool S.dead, .int .i64 (S.ops : Int)]) := Lib.hid ((NX5.out.heap X X4.out.lt fun e => by
      have h1 := (OW4.out.lt X e.symm).1
      have := HXl.out
      omega).trans X4.out)
    have cv5 : w5.cell? ⟨X, 0, none⟩ = some (.slice A Q.length c) := by rw [X5.out.cell]; rfl
    have B45 : Hid (Below w.heap.size w w5) := Lib.hid (B24.out.trans NX5.out.below)
    have HB2 : Hid ((∀ r ∈ (Q.map PV.cells).drop m, r.length = 6) ∧ ∀ r ∈ (Q.map PV.cells).drop m, ∀ u ∈ r, u.oneCell' = true) := Lib.hid ⟨fun r hr => HR.out.row.1 r (List.mem_of_mem_drop hr), fun r hr => by
      obtain ⟨q, hq, rfl⟩ := List.mem_map.1 (List.mem_of_mem_drop hr)
      exact (HR.out.ok q hq).one⟩
    have HV5 : Hid ((vx = .slice none 0 0 ∧ (Q.map PV.cells).drop m = []) ∨ ∃ b off c, vx = .slice (some ⟨b, off, none⟩) ((Q.map PV.cells).drop m).length c ∧ ∀ i j, i < ((Q.map PV.cells).drop m).length → j < 6 → w5.cell? ⟨b, off + (i * 6 + j), none⟩ = (((Q.map PV.cells).drop m).getD i [])[j]?) := Lib.hid (by
      rcases HLOW.out with h1 | ⟨b, off, c', h1, h2, h3⟩
      · exact .inl h1
      · refine .inr ⟨b, off, c', h1, fun i j hi hj => ?_⟩
        rw [← h3 i j hi hj]
        exact B45.out.cell (p := ⟨b, off + (i * 6 + j), none⟩) (HR.out.fl b (HR.out.fv b h2).1))
    have ND : Hid (((Q.take m).map PV.cells ++ [l]).length + ((Q.map PV.cells).drop m).length ≤ maxLen ∧ (((Q.take m).map PV.cells ++ [l]).length + ((Q.map PV.cells).drop m).length) * 64 ≤ 140737488355328) := Lib.hid (by
      have := HML.out; have := QL.out
      rw [List.length_append, EN.out, List.length_drop, List.length_map, List.length_singleton]
      unfold maxLen
      omega)
    go_upto_region 16 with (first
      | (at_builtin
         refine wpList_append_rowR _ rfl _ _ _ rfl w.heap.size 40 ip _ 6 64 Try.underlying28 hip hpz hps hpb (by simp [Value.cells]) (by decide) v5 _ rfl OW5.out vx _ HB2.out.1 HB2.out.2 rfl HV5.out ND.out.1 ND.out.2 B45.out.size ?_
         intro v6 w6 own6 nx6
         obtain ⟨A6, l6, c6, hv6⟩ : ∃ A6 l6 c6, v6 = .slice A6 l6 c6 := by
           obtain ⟨A6, c6, e, _⟩ := own6.form
           exact ⟨A6, _, c6, e⟩
         subst hv6
         have OW6 := Lib.hid own6
         have NX6 := Lib.hid nx6
         have hX6 : Blk w6 X 30 [.slice A Q.length c, .int .i64 (S.fuse : Int), .bool S.dead, .int .i64 (S.ops : Int)] := (nx6.heap X X5.out.lt fun e => by
           have h1 := (OW5.out.lt X e.symm).1
           have := HXl.out
           omega).trans X5.out
         have X6 := Lib.hid hX6
         have cv6 : w6.cell? ⟨X, 0, none⟩ = some (.slice A Q.length c) := by rw [hX6.cell]; rfl
         have f6 := hX6.free 0
         clear own6 nx6 hX6))
    have e1 : S1 = { S with L := insP S.L n } := by rw [hS1]; unfold withP; rw [if_neg HNF.out]
    obtain ⟨wc, hwc⟩ : ∃ wc, wc = w6.setCell ⟨X, 0, none⟩ (.slice A6 l6 c6) := ⟨_, rfl⟩
    have B26 : Hid (Below w.heap.size w w6) := Lib.hid (B45.out.trans NX6.out.below)
    have HINS : Hid (RefIs wc X { S with L := insP S.L n } (Since F w wc) (.slice A6 l6 c6) (Q.take (tw S.L n) ++ ⟨blank n, zsl w2.heap.size, zsl w3.heap.size⟩ :: Q.drop (tw S.L n)) ∧ Chg (fun j => j = X) w wc) := Lib.hid (by
      have s2 := hbel.out.size
      have s3 := HB3.out.size
      have s4 := HB4.out.size
      have s5 := NX5.out.size
      have z1 := HZ1.out.lt
      have z2 := HZ2.out.lt
      have oA := hown.out.lt
      have o4 : ∀ j, (Value.slice Ao m co).ownBlock = some j → j < w2.heap.size := fun j hj => (oA j hj).2
      have o5 : ∀ j, v5.ownBlock = some j → j < w2.heap.size ∨ w4.heap.size ≤ j := fun j hj => by
        rcases NX5.out.blk with h1 | ⟨k, h1, h2⟩
        · exact .inl (o4 j (by rw [← h1]; exact hj))
        · rw [h1] at hj
          injection hj with hj
          exact .inr (by omega)
      have o6 : ∀ j, (Value.slice A6 l6 c6).ownBlock = some j → j < w2.heap.size ∨ w4.heap.size ≤ j := fun j hj => by
        rcases NX6.out.blk with h1 | ⟨k, h1, h2⟩
        · exact o5 j (by rw [← h1]; exact hj)
        · rw [h1] at hj
          injection hj with hj
          exact .inr (by omega)
      have Z1' : Blk w6 w2.heap.size 5 (z128.map bv) := by
        have a := (Chg.of_below HB4.out).blk HZ1.out (by omega)
        have b := (NX5.out.heap _ a.lt fun e => by have := o4 _ e.symm; omega).trans a
        exact (NX6.out.heap _ (show _ < w5.heap.size by omega) fun e => by have := o5 _ e.symm; omega).trans b
      have Z2' : Blk w6 w3.heap.size 5 (z128.map bv) := by
        have b := (NX5.out.heap _ HZ2.out.lt fun e => by have := o4 _ e.symm; omega).trans HZ2.out
        exact (NX6.out.heap _ (show _ < w5.heap.size by omega) fun e => by have := o5 _ e.symm; omega).trans b
      have hrow := OW6.out
      rw [HLL.out, HM.out, row_in] at hrow
      refine HR.out.insert HN.out HNF.out B26.out (hwc ▸ Sole.setCell w6 X 0 (.slice A6 l6 c6)) ?_ hrow Z1' Z2' (by omega) (by omega) (fun e => by have := o6 _ e; omega) (fun e => by have := o6 _ e; omega)
      rw [hwc]
      exact X6.out.set 0 (.slice A6 l6 c6))
    obtain ⟨F1, hF1⟩ : ∃ F1, F1 = Since F w wc := ⟨_, rfl⟩
    obtain ⟨Q1, hQ1⟩ : ∃ Q1, Q1 = Q.take (tw S.L n) ++ ⟨blank n, zsl w2.heap.size, zsl w3.heap.size⟩ :: Q.drop (tw S.L n) := ⟨_, rfl⟩
    rw [← hF1, ← hQ1] at HINS
    obtain ⟨v1, hv1⟩ : ∃ v1, v1 = (Value.slice A6 l6 c6) := ⟨_, rfl⟩
    rw [← hv1, ← e1] at HINS
    have HR1 : Hid (RefIs wc X S1 F1 v1 Q1) := Lib.hid HINS.out.1
    have HF1 : Hid (∀ j, F1 j → F j ∨ w.heap.size ≤ j) := Lib.hid fun j hj => by
      rw [hF1] at hj
      exact hj.imp id fun h => h.1
    have HV1 : Hid (∀ j, v1.ownBlock = some j → O j ∨ w.heap.size ≤ j) := Lib.hid fun j hj => by
      rw [hv1] at hj
      exact .inr (OW6.out.lt j hj).1
    have HC1 : Hid (Chg O w wc) := Lib.hid (HINS.out.2.mono fun j e => by rw [e]; exact HOX.out)
    have HRb : Hid (Rd wc (.slice Ab bs.length cb) bs) := Lib.hid (chg_rd0 HINS.out.2 HRb0.out fun hpos j hj => by
      cases Ab with
      | none => cases hj
      | some ad =>
        have : ad.block = j := by simpa [Value.ownBlock] using hj
        rw [← this]
        exact fun e => (HB.out hpos _ rfl).2 (by rw [e]; exact HR.out.fx))
    have HG1 : Hid (∀ j, F j → F1 j) := Lib.hid fun j hj => by rw [hF1]; exact .inl hj
    rw [← hwc]
    clear hF1 hQ1 hv1 hwc HINS HNF HLOW HLL NX5 NX6 OW4 OW5 OW6 B24 B45 B26 X4 X5 X6 HX0 HXl hown hbel HZ1 HZ2 HB3 HB4 HBT LL L1 NR ND HB2 HV5 hvx cv5 cv6 f6 EN HML QL HM e1 HRb0
    go_wp2_with (fail)
  all_goals
    have HFi : findL S1.L n < S1.L.length := by rw [hS1]; exact withP_found _ _
    obtain ⟨i, hi⟩ : ∃ i, i = findL S1.L n := ⟨_, rfl⟩
    have hiQ : i < Q1.length := by rw [HR1.out.len, hi]; exact HFi
    have eF1 : findI S1.L n = (i : Int) := by unfold findI; rw [if_pos HFi, hi]
    have HFD := Lib.hid (refFind_any HR1.out (n : Int))
    rw [eF1] at HFD
    have hv : ∃ g c, v1 = .slice (some ⟨g, 0, none⟩) Q1.length c := by
      obtain ⟨A, c, e, _, _, hA⟩ := HR1.out.form
      obtain ⟨g, e2, _⟩ := hA (by omega)
      exact ⟨g, c, by rw [e, e2]⟩
    obtain ⟨g, c1, rfl⟩ := hv
    obtain ⟨q, hq⟩ : ∃ q, q = Q1[i] := ⟨_, rfl⟩
    have HQI : Hid (∃ h : i < Q1.length, Q1[i] = q) := Lib.hid ⟨hiQ, hq.symm⟩
    have HI := Lib.hid hiQ
    have hiS : i < S1.L.length := by rw [← HR1.out.len]; exact hiQ
    have HSL : Hid ({ S1 with L := S1.L.set i (putP q.p bs) } = { S with L := writeL S.L n bs }) := Lib.hid (by
      have e2 := HR1.out.at hiQ
      rw [← hq] at e2
      have e3 := writeL_set (L := S.L) (bs := bs) (show S1.L = withP S.L n by rw [hS1]) hi hiS
      rw [e2] at e3
      rw [e3, hS1])
    have HFUL : Hid (q.p.now.length = 128 ∧ q.p.was.length = 128) := Lib.hid (by rw [hq, ← HR1.out.at hiQ]; exact HR1.out.good.full _ (List.getElem_mem hiS))
    have HOK : Hid (PvOk wc F1 X (.slice (some ⟨g, 0, none⟩) Q1.length c1) q) := Lib.hid (by rw [hq]; exact HR1.out.ok _ (List.getElem_mem hiQ))
    have n1I : (Q1.length : Int) ≤ 1024 := by have := HR1.out.good.length; have := HR1.out.len; omega
    have hI : (i : Int) < Q1.length := by omega
    have cv1 : wc.cell? ⟨X, 0, none⟩ = some (.slice (some ⟨g, 0, none⟩) Q1.length c1) := by rw [HR1.out.blk.cell]; rfl
    obtain ⟨An, ln, cn, hvn⟩ : ∃ An ln cn, q.vn = .slice An ln cn := by
      obtain ⟨A, c, e, _⟩ := HOK.out.now.form
      exact ⟨A, _, c, e⟩
    obtain ⟨torn, htorn⟩ : ∃ b, b = q.p.torn := ⟨_, rfl⟩
    obtain ⟨old, hold⟩ : ∃ b, b = q.p.old := ⟨_, rfl⟩
    obtain ⟨opn, hopn⟩ : ∃ b, b = q.p.opn := ⟨_, rfl⟩
    obtain ⟨vw, hvw⟩ : ∃ u, u = q.vw := ⟨_, rfl⟩
    obtain ⟨l, hl⟩ : ∃ l, l = q.cells := ⟨_, rfl⟩
    have HLE : Hid (l = [.int .i64 (q.p.plc : Int), .slice An ln cn, vw, .bool torn, .bool old, .bool opn]) := Lib.hid (by rw [hl, htorn, hold, hopn, hvw, ← hvn]; rfl)
    have LL : Hid (l.length = 6) := Lib.hid (by rw [hl]; rfl)
    have L1 : Hid (∀ u ∈ l, u.oneCell' = true) := Lib.hid (by rw [hl]; exact HOK.out.one)
    have EG : Hid ((Q1.map PV.cells).getD i [] = l) := Lib.hid (by rw [List.getD, List.getElem?_map, List.getElem?_eq_getElem hiQ, hl, hq]; rfl)
    have HMM : Hid (i < (Q1.map PV.cells).length) := Lib.hid (by rw [List.length_map]; exact hiQ)
    have HVN := Lib.hid hvn
    have HTO := Lib.hid htorn
    have HOL := Lib.hid hold
    have HOP := Lib.hid hopn
    have HVW := Lib.hid hvw
    have HS1 := Lib.hid hS1
    have HZP : Hid ((Try.prog.info? 40).bind (·.zero) = some (.agg zPlace.toArray)) := Lib.hid (zer_of info_place)
    clear hq hvn htorn hold hopn hvw hl hS1 HFi hi hiQ hiS eF1
    refine HFD.out.mono ?_
    rintro e wx ⟨rfl, hwx⟩
    rw [hwx]
    clear hwx wx HFD
    obtain ⟨C, hC⟩ : ∃ C, C = wc.heap.size := ⟨_, rfl⟩
    obtain ⟨W2, hW2⟩ : ∃ W : World, W = wc.alloc (.cells zPlace.toArray 40) := ⟨_, rfl⟩
    have K2 : Hid (Blk W2 C 40 zPlace) := Lib.hid (by rw [hW2, hC]; exact Blk.made _ _ _)
    have B2 : Hid (Below C wc W2) := Lib.hid (by rw [hW2, hC]; exact (Below.refl _ _).alloc (Nat.le_refl _) _)
    go_upto_region 18 with (first
      | (with_reducible refine here_load ?_
         refine wpList_load_row_el rfl 40 _ rfl HR1.out.row HMM.out rfl _ Try.underlying40 rfl HIPS.out ?_
         rw [EG.out])
      | (with_reducible refine here_alloc ?_
         refine wpList_alloc_v rfl 40 rfl _ HZP.out C hC.symm ?_
         rw [← hW2])
      | (with_reducible refine here_store ?_
         refine wpList_store_blk rfl 40 _ _ rfl C 40 _ K2.out l rfl rfl (by rw [LL.out]; rfl) (by rw [LL.out]; exact HIPS.out) L1.out ?_
         intro w3 hb3 hs3
         have K3 := Lib.hid hb3
         have S3 := Lib.hid hs3
         clear hb3 hs3))
    have B3 : Hid (Below C wc w3) := Lib.hid (B2.out.trans S3.out.below)
    have HCs : Hid (C < w3.heap.size ∧ wc.heap.size ≤ C) := Lib.hid ⟨K3.out.lt, Nat.le_of_eq hC.symm⟩
    have hK := K3.out
    rw [HLE.out] at hK
    have K3' := Lib.hid hK
    have c5 : w3.cell? ⟨C, 5, none⟩ = some (.bool opn) := by rw [hK.cell]; rfl
    obtain ⟨pc, hpc⟩ : ∃ pc, pc = q.p.plc := ⟨_, rfl⟩
    rw [← hpc] at K3'
    have HPC := Lib.hid hpc
    clear hW2 K2 S3 B2 K3 hK hpc hC cv1
    by_cases hop : opn = true
    case' pos =>
      have HW4 : Hid (∃ vw4 old4 w4, w4 = w3 ∧ Blk w4 C 40 [.int .i64 (pc : Int), .slice An ln cn, vw4, .bool torn, .bool old4, .bool true] ∧ Sole w3 w4 C ∧ Rd wc vw4 (putP q.p bs).was ∧ (∀ k, vw4.ownBlock = some k → F1 k ∧ k ≠ X ∧ k ≠ g) ∧ old4 = (putP q.p bs).old) := Lib.hid (by
        have hop' : q.p.opn = true := by rw [← HOP.out]; exact hop
        have k3 := K3'.out
        rw [hop] at k3
        refine ⟨vw, old, w3, rfl, k3, Sole.refl _ _, ?_, ?_, ?_⟩
        · rw [HVW.out]
          show Rd wc q.vw (if q.p.opn = true then _ else _)
          rw [if_pos hop']
          exact HOK.out.was
        · rw [HVW.out]
          exact fun k hk => ⟨(HOK.out.fw k hk).1, (HOK.out.fw k hk).2.1, fun e => (HOK.out.fw k hk).2.2 (by rw [e]; rfl)⟩
        · rw [HOL.out]
          show _ = (if q.p.opn = true then _ else _)
          rw [if_pos hop'])
      obtain ⟨vw4, old4, w4, hw4, K4, S4, R4, F4, O4⟩ := HW4.out
      have K4 := Lib.hid K4
      have S4 := Lib.hid S4
      have R4 := Lib.hid R4
      have F4 := Lib.hid F4
      have O4 := Lib.hid O4
      rw [hop] at c5
      clear HW4 hop
      go_upto_region 22 with (fail)
      rw [← hw4]
      clear hw4 c5
    case' neg =>
      have hop2 : opn = false := by simpa using hop
      have W4 : ∃ Wa Wb Wc, Wa = w3.setCell ⟨C, 2, none⟩ (.slice An ln cn) ∧ Wb = Wa.setCell ⟨C, 4, none⟩ (.bool torn) ∧ Wc = Wb.setCell ⟨C, 5, none⟩ (.bool true) := ⟨_, _, _, rfl, rfl, rfl⟩
      obtain ⟨Wa, Wb, w4, hWa, hWb, hw4⟩ := W4
      have Ka : Blk Wa C 40 [.int .i64 (pc : Int), .slice An ln cn, .slice An ln cn, .bool torn, .bool old, .bool opn] := by rw [hWa]; exact K3'.out.set 2 _
      have Kb : Blk Wb C 40 [.int .i64 (pc : Int), .slice An ln cn, .slice An ln cn, .bool torn, .bool torn, .bool opn] := by rw [hWb]; exact Ka.set 4 _
      have K4 : Hid (Blk w4 C 40 [.int .i64 (pc : Int), .slice An ln cn, .slice An ln cn, .bool torn, .bool torn, .bool true]) := Lib.hid (by rw [hw4]; exact Kb.set 5 _)
      have S4 : Hid (Sole w3 w4 C) := Lib.hid (by
        rw [hw4, hWb, hWa]
        exact ((Sole.setCell w3 C 2 _).trans (Sole.setCell _ C 4 _)).trans (Sole.setCell _ C 5 _))
      have hop' : ¬ q.p.opn = true := by rw [← HOP.out]; exact hop
      have R4 : Hid (Rd wc (.slice An ln cn) (putP q.p bs).was) := Lib.hid (by
        show Rd wc _ (if q.p.opn = true then _ else _)
        rw [if_neg hop', ← HVN.out]
        exact HOK.out.now)
      have F4 : Hid (∀ k, (Value.slice An ln cn).ownBlock = some k → F1 k ∧ k ≠ X ∧ k ≠ g) := Lib.hid (by
        rw [← HVN.out]
        exact fun k hk => ⟨(HOK.out.fn k hk).1, (HOK.out.fn k hk).2.1, fun e => (HOK.out.fn k hk).2.2 (by rw [e]; rfl)⟩)
      have O4 : Hid (torn = (putP q.p bs).old) := Lib.hid (by
        show _ = (if q.p.opn = true then _ else _)
        rw [if_neg hop']
        exact HTO.out)
      obtain ⟨vw4, hv4⟩ : ∃ u, u = Value.slice An ln cn := ⟨_, rfl⟩
      obtain ⟨old4, ho4⟩ : ∃ u, u = torn := ⟨_, rfl⟩
      have ca1 : w3.cell? ⟨C, 1, none⟩ = some (.slice An ln cn) := by rw [K3'.out.cell]; rfl
      have ca2 : w3.cell? ⟨C, 2, none⟩ = some vw := by rw [K3'.out.cell]; rfl
      have fa := K3'.out.free 2
      have cb3 : Wa.cell? ⟨C, 3, none⟩ = some (.bool torn) := by rw [Ka.cell]; rfl
      have cb4 : Wa.cell? ⟨C, 4, none⟩ = some (.bool old) := by rw [Ka.cell]; rfl
      have fb := Ka.free 4
      have cc5 : Wb.cell? ⟨C, 5, none⟩ = some (.bool opn) := by rw [Kb.cell]; rfl
      have fc := Kb.free 5
      rw [hop2] at c5
      clear hop hop2 hop'
      go_upto_region 20 with (fail)
      rw [← hWa]
      clear hWa ca1 ca2 fa c5
      go_upto_region 21 with (fail)
      rw [← hWb]
      clear hWb cb3 cb4 fb Ka
      go_upto_region 22 with (fail)
      rw [← hw4]
      clear hw4 cc5 fc Kb
      have K4' := K4.out
      have R4' := R4.out
      have F4' := F4.out
      have O4' := O4.out
      clear K4 R4 F4 O4
      have K4 : Hid (Blk w4 C 40 [.int .i64 (pc : Int), .slice An ln cn, vw4, .bool torn, .bool old4, .bool true]) := Lib.hid (by rw [hv4, ho4]; exact K4')
      have R4 : Hid (Rd wc vw4 (putP q.p bs).was) := Lib.hid (by rw [hv4]; exact R4')
      have F4 : Hid (∀ k, vw4.ownBlock = some k → F1 k ∧ k ≠ X ∧ k ≠ g) := Lib.hid (by rw [hv4]; exact F4')
      have O4 : Hid (old4 = (putP q.p bs).old) := Lib.hid (by rw [ho4]; exact O4')
      clear K4' R4' F4' O4' hv4 ho4
    all_goals
      have CL4 : Hid (C < w4.heap.size) := Lib.hid K4.out.lt
      have B4 : Hid (Below C wc w4) := Lib.hid (B3.out.trans S4.out.below)
      go_wp2_with (fail)
      refine (refZero_any _).mono ?_
      rintro e w5 ⟨rfl, hz, hbel⟩
      obtain ⟨Z, hZ⟩ : ∃ Z, Z = w4.heap.size := ⟨_, rfl⟩
      rw [← hZ] at hz hbel ⊢
      have HCZ : Hid (C < Z) := Lib.hid (by rw [hZ]; exact CL4.out)
      have K5 : Hid (Blk w5 C 40 [.int .i64 (pc : Int), .slice An ln cn, vw4, .bool torn, .bool old4, .bool true]) := Lib.hid ((Chg.of_below hbel).blk K4.out (by have := HCZ.out; omega))
      have B5 : Hid (Below C wc w5) := Lib.hid (B4.out.trans (hbel.mono (Nat.le_of_lt HCZ.out)))
      have Z5 := Lib.hid hz
      clear hz hbel hZ CL4 K4 S4 B4 K3' B3
      obtain ⟨W6, hW6⟩ : ∃ W : World, W = w5.setCell ⟨C, 1, none⟩ (.slice (some ⟨Z, 0, none⟩) 128 128) := ⟨_, rfl⟩
      have K6 : Hid (Blk W6 C 40 [.int .i64 (pc : Int), .slice (some ⟨Z, 0, none⟩) 128 128, vw4, .bool torn, .bool old4, .bool true]) := Lib.hid (by rw [hW6]; exact K5.out.set 1 _)
      have Z6 : Hid (Blk W6 Z 5 (z128.map bv)) := Lib.hid (by
        rw [hW6]
        exact ((Sole.setCell w5 C 1 _).other Z (by have := HCZ.out; omega)).trans Z5.out)
      have B6 : Hid (Below C wc W6) := Lib.hid (B5.out.trans (by rw [hW6]; exact (Sole.setCell w5 C 1 _).below))
      have cd1 : w5.cell? ⟨C, 1, none⟩ = some (.slice An ln cn) := by rw [K5.out.cell]; rfl
      have fd := K5.out.free 1
      go_upto_region 23 with (fail)
      rw [← hW6]
      clear hW6 cd1 fd K5 B5 Z5
      go_wp2_with (fail)
      refine wrb_loop _ _ _ _ _ _ _ _ _ _ _ _ _ _ _ _ _ _ _ _ _ _ _ _ _ _ _ _ _ _ _ _ _ _ _ _ _ _ _ _ _ _ _ _ _ _ _ _ _ _ _ _ _ _ _ _ _ _ _ _ _ _ _ _ _ _ _ _ _ _ _ _ _ _ _ _ _ _ _ _ _ _ _ _ _ _ _ _ _ _ _ _ _ _ _ _ _ _ _ _ _ _ _ _ _ _ _ _ _ _ _ _ _ _ _ _ _ _ _ _ _ _ _ _ bs Ab cb C Z W6 HLn.out (Nat.ne_of_lt HCZ.out) (Lib.hid ?_) (Lib.hid ?_) (Lib.hid ?_) Z6 (Lib.hid ?_)
      · exact chg_rd0 (Chg.of_below B6.out) HRb.out fun hpos j hj => by
          have h1 := HCs.out.2
          cases Ab with
          | none => cases hj
          | some ad =>
            have h2 : ad.block = j := by simpa [Value.ownBlock] using hj
            have h3 := (HB.out hpos _ rfl).1
            have h4 := HC1.out.size
            omega
      · intro hpos ad had
        have h1 := (HB.out hpos ad had).1
        have h2 := HC1.out.size
        have h3 := HCs.out.2
        have h4 := HCZ.out
        omega
      · rw [K6.out.cell]
        rfl
      intro u12 u103 u104 u105 u106 u107 u108 u109 u110 u111 u112 u113 u114 u115 u116 w7 hb7 hs7
      have K7 : Hid (Blk w7 C 40 [.int .i64 (pc : Int), .slice (some ⟨Z, 0, none⟩) 128 128, vw4, .bool torn, .bool old4, .bool true]) := Lib.hid ((hs7.out.other C (Nat.ne_of_lt HCZ.out)).trans K6.out)
      have B7 : Hid (Below C wc w7) := Lib.hid (B6.out.trans (hs7.out.below.mono (Nat.le_of_lt HCZ.out)))
      clear hs7 K6 Z6 B6
      obtain ⟨W8, hW8⟩ : ∃ W : World, W = w7.setCell ⟨C, 3, none⟩ (.bool false) := ⟨_, rfl⟩
      obtain ⟨q', hq'⟩ : ∃ q' : PV, q' = ⟨putP q.p bs, .slice (some ⟨Z, 0, none⟩) 128 128, vw4⟩ := ⟨_, rfl⟩
      have K8 : Hid (Blk W8 C 40 q'.cells) := Lib.hid (by
        have h := K7.out.set 3 (.bool false)
        rw [← hW8] at h
        rw [hq']
        show Blk W8 C _ [.int .i64 (q.p.plc : Int), _, _, _, .bool (putP q.p bs).old, _]
        rw [← O4.out, ← HPC.out]
        exact h)
      have Z8 : Hid (Blk W8 Z 5 ((pad128 bs).map bv)) := Lib.hid (by
        rw [hW8]
        exact ((Sole.setCell w7 C 3 _).other Z (by have := HCZ.out; omega)).trans hb7.out)
      have B8 : Hid (Below C wc W8) := Lib.hid (B7.out.trans (by rw [hW8]; exact (Sole.setCell w7 C 3 _).below))
      have ce3 : w7.cell? ⟨C, 3, none⟩ = some (.bool torn) := by rw [K7.out.cell]; rfl
      have fe := K7.out.free 3
      have QLn : Hid (q'.cells.length = 6) := Lib.hid rfl
      have Q1c : Hid (∀ u ∈ q'.cells, u.oneCell' = true) := Lib.hid (by
        rw [hq']
        intro u hu
        simp only [PV.cells, List.mem_cons, List.not_mem_nil, or_false] at hu
        rcases hu with rfl | rfl | rfl | rfl | rfl | rfl
        · rfl
        · rfl
        · exact R4.out.one
        · rfl
        · rfl
        · rfl)
      have HQE := Lib.hid hq'
      clear hq' hb7
      go_upto_region 28 with (fail)
      rw [← hW8]
      clear hW8 ce3 fe K7 B7
      have C8 : Hid (Chg (fun j => wc.heap.size ≤ j) wc W8) := Lib.hid ((Chg.of_below B8.out).mono fun j hj => Nat.le_trans HCs.out.2 hj)
      have cX : ∀ m, (W8.drewN m).cell? ⟨X, 0, none⟩ = some (.slice (some ⟨g, 0, none⟩) Q1.length c1) := fun m => by
        have h1 := C8.out.blk HR1.out.blk (by have := HR1.out.fl X HR1.out.fx; omega)
        rw [(h1.drewN m).cell]
        rfl
      obtain ⟨cl, hcl⟩ : ∃ cl, cl = q'.cells := ⟨_, rfl⟩
      have HCL := Lib.hid hcl
      have CLn : Hid (cl.length = 6) := Lib.hid (by rw [hcl]; exact QLn.out)
      have CL1 : Hid (∀ u ∈ cl, u.oneCell' = true) := Lib.hid (by rw [hcl]; exact Q1c.out)
      have RNG : Hid (∀ W, (∃ n, W = W8.drewN n) → W.rangeAt C 0 cl) := Lib.hid (by
        have h1 := range_drewN (K8.out.range 0)
        rw [List.drop_zero, ← hcl] at h1
        exact h1)
      have ROW8 : Hid (∀ m, OwnR 6 (W8.drewN m) 0 40 (.slice (some ⟨g, 0, none⟩) Q1.length c1) (Q1.map PV.cells)) := Lib.hid fun m => (Chg.drewN _ C8.out m).ownR HR1.out.row fun j hj => by have := HR1.out.fl j (HR1.out.fv j hj).1; omega
      clear hcl
      go_wp2_with (fail)
      refine wp_quiet_tail 7 (by kernel_rfl) (by kernel_rfl) (by kernel_rfl) (by kernel_rfl) (by kernel_rfl) (by kernel_rfl) (by kernel_rfl) (by kernel_rfl) ?_
      simp only [List.take_succ_cons, List.take_zero, List.drop_succ_cons, List.drop_zero]
      repeat (go_big_quiet_step (fail))
      refine wpQuiet_load_mid rfl 123 rfl 40 (.tmp 11) rfl C 0 rfl cl _ RNG.out Try.underlying40 rfl (by rw [CLn.out]; exact HIPS.out) ?_
      simp only [List.set_cons_zero, List.set_cons_succ]
      repeat (go_big_quiet_step (fail))
      refine wpQuiet_nil ?_
      intro wq hwq
      obtain ⟨nq, rfl⟩ := hwq
      have THR : Hid ((W8.drewN nq).there g (i * 6) 6) := Lib.hid ((ROW8.out nq).there HMM.out)
      obtain ⟨w9, hw9⟩ : ∃ w9, w9 = (W8.drewN nq).setCells g (i * 6) cl := ⟨_, rfl⟩
      have HPUT : Hid (RefIs w9 X { S with L := writeL S.L n bs } (Since F1 wc w9) (.slice (some ⟨g, 0, none⟩) Q1.length c1) (Q1.set i q') ∧ Chg (fun j => j = g) wc w9) := Lib.hid (by
        obtain ⟨hiQ, hQI⟩ := HQI.out
        rw [hw9, HCL.out, ← HSL.out]
        have z8 : W8.heap.size ≥ Z + 1 := Z8.out.lt
        have h1 := HCs.out.2
        have h2 := HCZ.out
        have hz : ∀ k, q'.vn.ownBlock = some k → k = Z := fun k hk => by
          rw [HQE.out] at hk
          have : Z = k := by simpa [Value.ownBlock] using hk
          exact this.symm
        have x1 := HR1.out.fl X HR1.out.fx
        have x2 := HR1.out.fl g (HR1.out.fv g rfl).1
        refine HR1.out.putAll (Chg.drewN _ C8.out nq) hiQ q' ?_ ?_ (fun k hk => ?_) (fun k hk => ?_) ?_ ?_ ?_ (by rw [HQE.out]) rfl rfl rfl
        · rw [HQE.out]
          have h3 := (Z8.out.drewN nq).rd 128 128 (by rw [pad128_length HLn.out]; exact Nat.le_refl _) (Nat.le_refl _) (by unfold maxLen; omega)
          rw [List.take_of_length_le (by rw [pad128_length HLn.out]; exact Nat.le_refl _)] at h3
          exact h3
        · rw [HQE.out]
          exact (Chg.drewN _ C8.out nq).rd R4.out fun k hk => by
            have := HR1.out.fl k (F4.out k hk).1
            omega
        · have e := hz k hk
          exact ⟨.inr ⟨by omega, by show k < W8.heap.size; omega⟩, by omega, by omega⟩
        · rw [HQE.out] at hk
          exact ⟨.inl (F4.out k hk).1, (F4.out k hk).2⟩
        · rw [HQE.out, hQI]
          rfl
        · rw [HQE.out]
          exact pad128_length HLn.out
        · rw [HQE.out]
          show (if q.p.opn = true then _ else _ : List UInt8).length = 128
          split
          · exact HFUL.out.2
          · exact HFUL.out.1)
      go_wp2_with (first
        | (with_reducible refine here_store ?_
           refine wpList_store_mid rfl 40 _ _ rfl g (i * 6) cl.toArray rfl rfl (by rw [List.size_toArray, CLn.out]; exact THR.out) (by rw [List.size_toArray, CLn.out]; exact HIPS.out) (all_oneCell_toArray CL1.out) ?_))
      rw [← hw9]
      refine (refBurn_any HPUT.out.1 HO.out).mono ?_
      rintro e wz ⟨rfl, hRz, hsz⟩
      have HRz := Lib.hid hRz
      have HCz : Hid (Chg O w wz) := Lib.hid (by
        have h1 : Chg O w w9 := HC1.out.trans (HPUT.out.2.mono fun j hj => HV1.out j (by rw [hj]; rfl))
        exact h1.trans ((sole_chg (F := fun j => j = X) hsz rfl).mono fun j e => .inl (by rw [e]; exact HOX.out))
      )
      have HFz : Hid (∀ j, Since F1 wc w9 j → F j ∨ w.heap.size ≤ j) := Lib.hid fun j hj => by
        rcases hj with h1 | ⟨h1, _⟩
        · exact HF1.out j h1
        · have := HC1.out.size
          exact .inr (by omega)
      have HPP := Lib.hid (HP2.out wz (Since F1 wc w9) _ _ HRz.out HFz.out HV1.out HCz.out)
      clear hRz hsz hw9
      by_cases hbu : (burnS { S with L := writeL S.L n bs }).2 = true
      case' pos =>
        rw [if_pos hbu] at HPP
        rw [hbu]
        go_wp2_with (fail)
        exact HPP.out
      case' neg =>
        rw [if_neg hbu] at HPP
        rw [show (burnS { S with L := writeL S.L n bs }).2 = false by simpa using hbu]
        go_wp2_with (fail)
        exact HPP.out
end Go.Proofs.Ytkgbfghlonennaa
