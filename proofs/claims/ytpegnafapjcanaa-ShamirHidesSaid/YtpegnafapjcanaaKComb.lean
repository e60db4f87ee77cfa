/- The developers' Combine: its inner loop, and its contracts. Conditions: shares of 33 bytes, at most 8. -/
import Derived.Test.YtpegnafapjcanaaKWeight
import Derived.Test.YtpegnafapjcanaaToPtr
import Derived.Test.YtpegnafapjcanaaSrow
import Derived.Test.YtpegnafapjcanaaShamC
namespace Go.Proofs.Ytpegnafapjcanaa
open Go.RowKit

theorem index_key (ys : List UInt8) (h : ys.length = 32) (j : Nat) (hj : j < 32) (W : World) : (Instr.index 23 (.agg (ys.map bv).toArray) (.int .i64 (j : Int))).run Try.prog W = .ok (.int .u8 ((ys.getD j 0).toNat : Int)) W := by
  obtain ⟨i3, k0, k1, k2, k3⟩ := info_parts info_u8
  have hs : (sizeOf 5).run Try.prog W = .ok 1 W := by simp [sizeOf, typeInfo, k0, k2]
  have u8d : Try.prog.underlying 5 = some (.int .u8) := by kernel_rfl
  obtain ⟨x, hx⟩ : ∃ x, ys[j]? = some x := ⟨_, List.getElem?_eq_getElem (by omega)⟩
  have e : ys.getD j 0 = x := by rw [List.getD, hx]; rfl
  rw [e]
  simp [Instr.index, run_underlying Try.underlying23, asIntOf, part, hs, hx, hj, bv, isAgg, run_underlying u8d]
theorem chg_sole {w w' : World} {B : Nat} (h : Sole w w' B) : Chg (fun k => k = B) w w' := ⟨h.below.os, h.below.tape, h.below.output, Nat.le_of_eq h.size.symm, fun k _ hk => h.other k hk⟩
theorem chg_new {F : Nat → Prop} {w w' : World} (h : Below w.heap.size w w') : Chg F w w' := ⟨h.os, h.tape, h.output, h.size, fun k hk _ => h.block k hk⟩
theorem chg_more {F : Nat → Prop} {a b c : World} (h : Chg F a b) (k : Chg F b c) : Chg F a c := h.trans (k.mono fun _ h => .inl h)
def CbjRel (L : List (List UInt8)) (i B : Nat) (w : World) (v : Value) (W : World) : Prop := ∃ j : Nat, v = .int .i64 (j : Int) ∧ j ≤ 32 ∧ Blk W B 23 ((mixB L i j).map bv) ∧ Sole w W B
noncomputable def body_cbj : Code := (((Try.f11.body.map loopsOf).getD [])[1]?).getD .skip
set_option maxRecDepth 100000 in
set_option maxHeartbeats 2000000 in
theorem cbj_loop (c0 c1 c2 c3 c4 c7 c8 c10 c11 c12 c13 c14 c15 c16 c17 c18 c19 c20 c21 c22 c23 c24 c25 c26 c27 c28 c29 c30 c31 c32 c33 c34 c37 c38 c39 c40 c41 c42 c43 c44 c45 c46 c47 c48 c49 c50 c51 : Value) (L : List (List UInt8)) (i B TB : Nat) (ys : List UInt8) (w : World) (hT : Hid (Tab w TB)) (hne : TB ≠ B) (hys : Hid (ys.length = 32)) (hyv : Hid (∀ j, j < 32 → ys.getD j 0 = shY (L.getD i []) j)) (h0 : Hid (Blk w B 23 ((mixB L i 0).map bv))) {Q : Exit → Act → World → Prop}
    (HQ : Hid (∀ (u10 u11 u36 u37 u38 u39 u40 u41 u42 u43 u44 u45 u46 u47 u48 u49 : Value) (wx : World), Hid (Blk wx B 23 ((mixB L (i + 1) 0).map bv)) → Hid (Sole w wx B) → Q (.exit 2) ⟨List.toArray (c0 :: c1 :: c2 :: c3 :: c4 :: (.pointer (some ⟨TB, 0, none⟩)) :: (.pointer (some ⟨B, 0, none⟩)) :: c7 :: c8 :: (.int .u8 ((wgt (XL L) i L.length).toNat : Int)) :: u10 :: u11 :: c12 :: c13 :: c14 :: c15 :: c16 :: c17 :: c18 :: c19 :: c20 :: c21 :: c22 :: c23 :: c24 :: c25 :: c26 :: c27 :: c28 :: c29 :: c30 :: c31 :: c32 :: c33 :: c34 :: (.agg (ys.map bv).toArray) :: u36 :: u37 :: u38 :: u39 :: u40 :: u41 :: u42 :: u43 :: u44 :: u45 :: u46 :: u47 :: u48 :: u49 :: c50 :: c51 :: []), []⟩ wx)) :
    (Code.loop body_cbj).wp Try.prog Q ⟨List.toArray (c0 :: c1 :: c2 :: c3 :: c4 :: (.pointer (some ⟨TB, 0, none⟩)) :: (.pointer (some ⟨B, 0, none⟩)) :: c7 :: c8 :: (.int .u8 ((wgt (XL L) i L.length).toNat : Int)) :: c10 :: c11 :: c12 :: c13 :: c14 :: c15 :: c16 :: c17 :: c18 :: c19 :: c20 :: c21 :: c22 :: c23 :: c24 :: c25 :: c26 :: c27 :: c28 :: c29 :: c30 :: c31 :: c32 :: c33 :: c34 :: (.agg (ys.map bv).toArray) :: (.int .i64 0) :: c37 :: c38 :: c39 :: c40 :: c41 :: c42 :: c43 :: c44 :: c45 :: c46 :: c47 :: c48 :: c49 :: c50 :: c51 :: []), []⟩ w := by
  have HNE := Lib.hid hne
  clear hne
  unfold body_cbj
  conv => arg 2; arg 1; whnf
  go_loopw [36] (fun v wx => CbjRel L i B w v wx) (fun v _ => 32 - (intOf v).toNat)
  case atStart => exact ⟨0, rfl, by omega, h0.out, Sole.refl _ _⟩
  case round =>
    obtain ⟨j, rfl, hj, hblk, so⟩ := hrel
    by_cases hlt : j < 32
    · have hI : (j : Int) < 32 := by omega
      obtain ⟨s, hs⟩ : ∃ s, s = sumE (fun q => gm (wgt (XL L) q L.length) (shY (L.getD q []) j)) i := ⟨_, rfl⟩
      obtain ⟨y, hy⟩ : ∃ y, y = shY (L.getD i []) j := ⟨_, rfl⟩
      obtain ⟨g, hg⟩ : ∃ g, g = wgt (XL L) i L.length := ⟨_, rfl⟩
      have HS : Hid ((mixB L i j).set j (s ^^^ gm g y) = mixB L i (j + 1)) := Lib.hid (by
        rw [← mixB_set L, hs, hg, hy]
        rfl)
      have HX : ∀ W, (Instr.index 23 (.agg (ys.map bv).toArray) (.int .i64 (j : Int))).run Try.prog W = .ok (.int .u8 (y.toNat : Int)) W := fun W => by
        rw [hy, ← hyv.out j hlt]
        exact index_key ys hys.out j hlt W
      have cs : wr.cell? ⟨B, j, none⟩ = some (.int .u8 (s.toNat : Int)) := by
        rw [hblk.cell, List.getElem?_map, mixB_get L hlt, ← hs]
        rfl
      have HT : Hid (Tab wr TB) := Lib.hid (so.blk hT.out HNE.out)
      have M1 := Lib.hid (fun n => mulG TB g y (wr.drewN n) (HT.out.drewN n))
      have hxr := bx_u8 s (gm g y)
      have HB := Lib.hid hblk
      have HL := Lib.hid so
      have HCS := Lib.hid cs
      rw [← hg]
      have HG := Lib.hid hg
      have f5 := hblk.free j
      have HLT := Lib.hid hlt
      clear hs hy hg hblk so hj hlt
      go_wp2_with (fail)
      refine wp_quiet_tail 9 (by kernel_rfl) (by kernel_rfl) (by kernel_rfl) (by kernel_rfl) (by kernel_rfl) (by kernel_rfl) (by kernel_rfl) (by kernel_rfl) ?_
      simp only [List.take_succ_cons, List.take_zero, List.drop_succ_cons, List.drop_zero]
      repeat (go_big_quiet_step ((go_at_call 24; exact Calls.quiet_of (M1.out _))))
      refine wpQuiet_nil ?_
      intro wq hwq
      obtain ⟨nq, rfl⟩ := hwq
      clear cs f5
      have f6 : (wr.drewN nq).frozen? ⟨B, j, none⟩ = false := (HB.out.drewN nq).free j
      have c6 : (wr.drewN nq).cell? ⟨B, j, none⟩ = some (.int .u8 (s.toNat : Int)) := HCS.out
      have HST : Hid (Blk ((wr.drewN nq).setCell ⟨B, j, none⟩ (.int .u8 ((s ^^^ gm g y).toNat : Int))) B 23 ((mixB L i (j + 1)).map bv)) := Lib.hid (by
        have h := (HB.out.drewN nq).set j (bv (s ^^^ gm g y))
        rw [← List.map_set, HS.out] at h
        exact h)
      have HSO : Hid (Sole w ((wr.drewN nq).setCell ⟨B, j, none⟩ (.int .u8 ((s ^^^ gm g y).toNat : Int))) B) := Lib.hid (HL.out.trans (sole_set_drewN wr B j nq _))
      go_wp2_with (fail)
      have hlt := HLT.out
      refine ⟨⟨j + 1, by go_num, by omega, HST.out, HSO.out⟩, by simp [intOf]; omega⟩
    · obtain rfl : j = 32 := by omega
      have HB := Lib.hid hblk
      have HL := Lib.hid so
      rw [mixB_next] at HB
      clear hblk so
      go_wp2_with (fail)
      exact HQ.out _ _ _ _ _ _ _ _ _ _ _ _ _ _ _ _ _ HB HL
theorem built_key : Try.prog.built 23 [] = some (zeros32.map bv).toArray := by kernel_rfl
set_option maxRecDepth 100000 in
set_option maxHeartbeats 2000000 in
theorem combe : CombE := by
  intro v L w k hr hl hk
  obtain ⟨A, c, rfl, hc1, hc2, hA⟩ := hr.form
  have HR := Lib.hid hr
  have HL : Hid (L.length ≤ 1000) := Lib.hid (by omega)
  have nI : (L.length : Int) ≤ 8 := by omega
  have HIK : Hid ((Try.prog.info? 23).map (·.size) = some 32) := Lib.hid (size_of info_key)
  have HZK : Hid ((Try.prog.info? 23).bind (·.zero) = some (.agg (zeros32.map bv).toArray)) := Lib.hid (zero_of info_key)
  have HBK := Lib.hid built_key
  have HZL : Hid ((zeros32.map bv).length = 32) := Lib.hid (by simp [zeros32])
  obtain ⟨W0, hW0⟩ : ∃ W : World, W = w.alloc (.cells (zeros32.map bv).toArray 23) := ⟨_, rfl⟩
  have R0 : Hid (Blk W0 w.heap.size 23 (zeros32.map bv)) := Lib.hid (by rw [hW0]; exact Blk.made w _ _)
  have D0 : Hid (Below w.heap.size w W0) := Lib.hid (by rw [hW0]; exact (Below.refl _ _).alloc (Nat.le_refl _) _)
  clear hr hA
  go_enter Try.func11, Try.ntmps11
  go_upto_region 1 with (refine wpList_alloc_z rfl 23 rfl _ HZK.out w.heap.size rfl ?_)
  rw [← hW0]
  clear hW0 HZK
  rcases hk with ⟨rfl, rfl⟩ | ⟨hne, hp, rfl⟩
  · rw [List.length_nil]
    go_wp2_with (first
      | refine wpList_build_is rfl 23 _ rfl _ rfl _ HBK.out ?_
      | (refine wpList_store_blk rfl 23 _ _ rfl w.heap.size 23 _ R0.out (zeros32.map bv) rfl rfl rfl (by rw [HZL.out]; exact HIK.out) (bv_one _) ?_
         intro w9 hb9 hs9))
    refine bodyPost_ret (v := .tuple #[arrV zeros32, .int .i64 6]) ?_ rfl ⟨rfl, D0.out.trans (hs9.below.mono (Nat.le_refl _))⟩
    exact results_blk_tmp (ty := 23) Try.results11 _ w9 w.heap.size 23 (zeros32.map bv) _ _ rfl rfl hb9 Try.underlying23 rfl (by rw [HZL.out]; exact HIK.out)
  · have hl0 : 0 < L.length := List.length_pos_iff.2 hne
    have hl1 : ¬ (L.length : Int) = 0 := by omega
    have hl2 : ((L.length : Int) == 0) = false := by rw [beq_eq_false_iff_ne]; exact hl1
    obtain ⟨k, hk⟩ : ∃ k, k = placesB L := ⟨_, rfl⟩
    rw [← hk] at hp
    have HK := Lib.hid hk
    have p1 : ((k : Int) == 0) = false := by rw [beq_eq_false_iff_ne]; omega
    have p2 : ¬ (k : Int) = 0 := by omega
    clear hk hp hl0 hne
    go_wp2_with (fail)
    refine (places_any _ L W0 (HR.out.below D0.out) HL.out).mono ?_
    rintro e w1 ⟨rfl, hb1⟩
    rw [← HK.out]
    have R1 := Lib.hid (R0.out.below hb1 R0.out.lt)
    have D1 := Lib.hid (D0.out.trans (hb1.mono D0.out.size))
    clear hb1
    go_wp2_with (first
      | refine wpList_build_is rfl 23 _ rfl _ rfl _ HBK.out ?_
      | (refine wpList_store_blk rfl 23 _ _ rfl w.heap.size 23 _ R1.out (zeros32.map bv) rfl rfl rfl (by rw [HZL.out]; exact HIK.out) (bv_one _) ?_
         intro w9 hb9 hs9))
    refine bodyPost_ret (v := .tuple #[arrV zeros32, .int .i64 (k : Int)]) ?_ rfl ⟨by rw [HK.out], D1.out.trans (hs9.below.mono (Nat.le_refl _))⟩
    exact results_blk_tmp (ty := 23) Try.results11 _ w9 w.heap.size 23 (zeros32.map bv) _ _ rfl rfl hb9 Try.underlying23 rfl (by rw [HZL.out]; exact HIK.out)
end Go.Proofs.Ytpegnafapjcanaa
