/- The contract of poly's numberOf: the limbs of the number that 17 bytes are. Conditions: 17 bytes. -/
import Derived.Test.YtlcpplnajaldgaaLRest
import Derived.Test.YtlcpplnajaldgaaRsMore
import Derived.Test.YtlcpplnajaldgaaGet
namespace Go.Proofs.Ytlcpplnajaldgaa
open Go.RowKit

def NofRel (w : World) (N : Nat) (zs : List Nat) (v : Value) (W : World) : Prop := ∃ i : Nat, v = .int .i64 (i : Int) ∧ i ≤ 5 ∧ Blk W N 46 ((zs.take i ++ (List.replicate 5 0).drop i).map wq) ∧ Sole w W N
noncomputable def body_nof : Code := (((Try.f28.body.map loopsOf).getD [])[0]?).getD .skip
set_option maxRecDepth 100000 in
set_option maxHeartbeats 2000000 in
theorem nof_loop (c1 c2 c4 c5 c6 c7 c9 c10 c11 c12 c13 c14 c15 c16 c17 c18 c19 c20 c21 c22 c23 c24 c25 c26 c27 c28 c29 c30 : Value) (B N : Nat) (T : TypeId) (xs : List UInt8) (zs : List Nat) (w : World) (hne : B ≠ N) (hl : Hid (xs.length = 17)) (hz : Hid (zs = lim (numB xs))) (hb : Hid (Blk w B T (xs.map bv))) (h0 : Hid (Blk w N 46 ((List.replicate 5 0).map wq))) {Q : Exit → Act → World → Prop}
    (HQ : Hid (∀ (u4 u5 u6 u7 u8 u9 u10 u11 u12 u13 u14 u15 u16 u17 u18 u19 u20 u21 u22 u23 u24 u25 u26 u27 u28 u29 : Value) (wx : World), Hid (Blk wx N 46 (zs.map wq)) → Hid (Sole w wx N) → Q (.exit 0) ⟨List.toArray ((.pointer (some ⟨B, 0, none⟩)) :: c1 :: c2 :: (.pointer (some ⟨N, 0, none⟩)) :: u4 :: u5 :: u6 :: u7 :: u8 :: u9 :: u10 :: u11 :: u12 :: u13 :: u14 :: u15 :: u16 :: u17 :: u18 :: u19 :: u20 :: u21 :: u22 :: u23 :: u24 :: u25 :: u26 :: u27 :: u28 :: u29 :: c30 :: []), []⟩ wx)) :
    (Code.loop body_nof).wp Try.prog Q ⟨List.toArray ((.pointer (some ⟨B, 0, none⟩)) :: c1 :: c2 :: (.pointer (some ⟨N, 0, none⟩)) :: c4 :: c5 :: c6 :: c7 :: (.int .i64 0) :: c9 :: c10 :: c11 :: c12 :: c13 :: c14 :: c15 :: c16 :: c17 :: c18 :: c19 :: c20 :: c21 :: c22 :: c23 :: c24 :: c25 :: c26 :: c27 :: c28 :: c29 :: c30 :: []), []⟩ w := by
  obtain ⟨i0, hi0, hz0, hz1, hz2⟩ := info_parts info_u8
  have HZL : Hid (zs.length = 5) := Lib.hid (by rw [hz.out, lim_length])
  unfold body_nof
  conv => arg 2; arg 1; whnf
  go_loopw [8] (fun v wx => NofRel w N zs v wx) (fun v _ => 5 - (intOf v).toNat)
  case atStart => exact ⟨0, rfl, by omega, by simpa using h0.out, Sole.refl _ _⟩
  case round =>
    obtain ⟨i, rfl, hi, hblk, so⟩ := hrel
    have HB := Lib.hid hblk
    have HL := Lib.hid so
    by_cases hlt : i < 5
    · have hI : (i : Int) < 5 := by omega
      obtain ⟨b, hbb⟩ : ∃ b, b = 26 * i := ⟨_, rfl⟩
      obtain ⟨l, hll⟩ : ∃ l, l = b / 8 := ⟨_, rfl⟩
      obtain ⟨s, hss⟩ : ∃ s, s = b % 8 := ⟨_, rfl⟩
      have l13 : l ≤ 13 := by omega
      obtain ⟨o, m, hm, ho, hsl⟩ := run_slice_arr_l' (P := Try.prog) 57 17 5 i0 Try.underlying57 hi0 hz1 B l (l : Int) rfl (by omega)
      have ho2 := ho (by omega)
      subst ho2
      have hr : Rd wr (.slice (some ⟨B, o, none⟩) m m) ((xs.drop o).take m) := (so.blk hb.out hne).rdo o m m (by rw [hl.out]; omega) (Nat.le_refl _) (by unfold maxLen; omega)
      have HR := Lib.hid hr
      have HLN : Hid (4 ≤ ((xs.drop o).take m).length) := Lib.hid (by rw [List.length_take, List.length_drop, hl.out]; omega)
      obtain ⟨q, hq⟩ : ∃ q, q = numB (((xs.drop o).take m).take 4) := ⟨_, rfl⟩
      have hq2 : q = numB ((xs.drop o).take 4) := by rw [hq, List.take_take, Nat.min_eq_left (by omega)]
      have ql : q < 4294967296 := by
        have h1 := numB_lt ((xs.drop o).take 4)
        rw [List.length_take, List.length_drop, hl.out, Nat.min_eq_left (by omega)] at h1
        rw [hq2]
        exact h1
      have HW : Hid (q / 2 ^ s % 67108864 = zs.getD i 0) := Lib.hid (by rw [hq2, hss, hbb, hz.out, lim_get _ hlt, ← lim_word xs hl.out hlt, hll, hbb])
      have HC : Hid (Calls Try.prog 33 #[.slice (some ⟨B, o, none⟩) m m, .int .i64 4] wr fun e w' => e = .returned (.tuple #[.int .u64 (q : Nat), .int .i64 0]) ∧ wr = w') := Lib.hid (by rw [hq]; exact get_yes _ _ 4 wr HR.out (by omega) (by omega) HLN.out)
      have HS := Lib.hid (mix_set (ns := List.replicate 5 0) hlt HZL.out (by simp))
      have f0 : wr.frozen? ⟨N, i, none⟩ = false := hblk.free _
      have hlen : (zs.take i ++ (List.replicate 5 0).drop i).length = 5 := by rw [List.length_append, List.length_take, List.length_drop, HZL.out]; simp; omega
      obtain ⟨u, hu⟩ : ∃ u, wr.cell? ⟨N, i, none⟩ = some u := ⟨_, rq_cell hblk (i := i) (by rw [hlen]; exact hlt)⟩
      have sI : (s : Int) ≤ 7 := by omega
      have qI : (q : Int) ≤ 4294967295 := by omega
      have bI : (b : Int) ≤ 104 := by omega
      have a1 : 26 * (i : Int) = (b : Int) := by omega
      have a2 : (b : Int) / 8 = (o : Int) := by omega
      have a3 : (b : Int) % 8 = (s : Int) := by omega
      have HM := Lib.hid hm
      clear hbb hll hss l13 hm ho hr hq hq2 ql hblk so hi hlen
      go_wp2_with (fail)
      refine (HC.out).mono ?_
      rintro e w1 ⟨rfl, rfl⟩
      go_wp2_with (fail)
      clear a1 a2 a3
      have e1 : Value.int .u64 (bits .and .u64 ((q : Int) / 2 ^ s) 67108863) = wq (zs.getD i 0) := by
        have h1 : (q : Int) / 2 ^ s = ((q / 2 ^ s : Nat) : Int) := by simp
        have h2 : q / 2 ^ s ≤ q := Nat.div_le_self _ _
        rw [h1, and26 _ (by omega), HW.out]
        rfl
      refine ⟨⟨i + 1, by go_num, by omega, ?_, HL.out.trans (Sole.setCell wr N i _)⟩, by simp [intOf]; omega⟩
      rw [e1]
      have h := HB.out.set i (wq (zs.getD i 0))
      rw [← List.map_set, HS.out] at h
      exact h
    · obtain rfl : i = 5 := by omega
      have HB2 : Hid (Blk wr N 46 (zs.map wq)) := Lib.hid (by
        have e : zs.take 5 ++ (List.replicate 5 0).drop 5 = zs := by
          rw [List.take_of_length_le (by rw [HZL.out]; omega), List.drop_of_length_le (by simp), List.append_nil]
        rw [← e]
        exact hblk)
      clear hblk so
      go_wp2_with (fail)
      exact HQ.out _ _ _ _ _ _ _ _ _ _ _ _ _ _ _ _ _ _ _ _ _ _ _ _ _ _ _ HB2 HL
set_option maxRecDepth 100000 in
set_option maxHeartbeats 2000000 in
theorem nof_any (B : Nat) (T : TypeId) (xs : List UInt8) (w : World) (hb : Blk w B T (xs.map bv)) (hl : xs.length = 17) :
    Calls Try.prog 28 #[.pointer (some ⟨B, 0, none⟩)] w fun e w' => e = .returned (.agg ((lim (numB xs)).map wq).toArray) ∧ Below w.heap.size w w' := by
  have HI : Hid ((Try.prog.info? 46).map (·.size) = some 5) := Lib.hid num_info
  have hlt := hb.lt
  obtain ⟨W1, hW1⟩ : ∃ W : World, W = (w.alloc (.cells (List.replicate 5 (Value.int .u64 0)).toArray 46)).alloc (.cells (List.replicate 5 (Value.int .u64 0)).toArray 46) := ⟨_, rfl⟩
  have D1 : Hid (Below w.heap.size w W1) := Lib.hid (by rw [hW1]; exact ((Below.refl _ _).alloc (Nat.le_refl _) _).alloc (by simp) _)
  have B1 : Hid (Blk W1 B T (xs.map bv)) := Lib.hid (by rw [hW1]; exact (hb.alloc _).alloc _)
  have R1 : Hid (Blk W1 w.heap.size 46 (List.replicate 5 (Value.int .u64 0))) := Lib.hid (by rw [hW1]; exact (Blk.made w _ _).alloc _)
  have N1 : Hid (Blk W1 (w.heap.size + 1) 46 ((List.replicate 5 0).map wq)) := Lib.hid (by
    have h := Blk.made (w.alloc (.cells (List.replicate 5 (Value.int .u64 0)).toArray 46)) 46 (List.replicate 5 (Value.int .u64 0))
    rw [World.size_alloc] at h
    rw [hW1, List.map_replicate]
    exact h)
  have HL := Lib.hid hl
  obtain ⟨zs, hz⟩ : ∃ zs, zs = lim (numB xs) := ⟨_, rfl⟩
  have HZ := Lib.hid hz
  have HLZ : Hid ((zs.map wq).length = 5) := by show _ = _; rw [List.length_map, hz, lim_length]
  have HBN : Hid (B < w.heap.size) := Lib.hid hlt
  rw [← hz]
  clear hb hl hz hlt
  subst hW1
  go_enter Try.func28, Try.ntmps28
  go_wp2_with (fail)
  refine nof_loop _ _ _ _ _ _ _ _ _ _ _ _ _ _ _ _ _ _ _ _ _ _ _ _ _ _ _ _ B (w.heap.size + 1) T xs zs _ (by have := HBN.out; omega) HL HZ B1 N1 (Lib.hid ?_)
  intro u4 u5 u6 u7 u8 u9 u10 u11 u12 u13 u14 u15 u16 u17 u18 u19 u20 u21 u22 u23 u24 u25 u26 u27 u28 u29 w5 hb5 hs5
  have R5 := Lib.hid (hs5.out.blk R1.out (by omega))
  have D5 : Hid (Below w.heap.size w w5) := Lib.hid (D1.out.trans (hs5.out.below.mono (by omega)))
  clear hs5
  go_wp2_with (first
    | (refine wpList_load_blk rfl 46 (.tmp 3) rfl (w.heap.size + 1) rfl 46 (zs.map wq) _ hb5.out Try.underlying46 rfl (by rw [HLZ.out]; exact HI.out) ?_)
    | (refine wpList_store_blk rfl 46 (.tmp 2) (.tmp 30) rfl w.heap.size 46 _ R5.out (zs.map wq) rfl rfl (by rw [HLZ.out]; rfl) (by rw [HLZ.out]; exact HI.out) (wq_one _) ?_; intro w9 hb9 hs9))
  refine bodyPost_ret (v := .agg (zs.map wq).toArray) ?_ rfl ⟨rfl, D5.out.trans hs9.below⟩
  exact results_blk (ty := 46) Try.results28 _ w9 w.heap.size 46 (zs.map wq) _ rfl hb9 Try.underlying46 rfl (by rw [HLZ.out]; exact HI.out)
end Go.Proofs.Ytlcpplnajaldgaa
