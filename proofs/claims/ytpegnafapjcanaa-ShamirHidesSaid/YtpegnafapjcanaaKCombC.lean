/- The contract of the developers' Combine: shares that have places are put together. Conditions: shares of 33 bytes, at most 8. -/
import Derived.Test.YtpegnafapjcanaaKComb
import Derived.Test.YtpegnafapjcanaaSRefD
namespace Go.Proofs.Ytpegnafapjcanaa
open Go.RowKit

theorem twice_of {L : List (List UInt8)} (h : placesB L = 0) : ¬ TwiceIn L := by
  rcases placesB_cases L with h1 | h1 | h1
  · rw [h1.1] at h; cases h
  · rw [h1.1] at h; cases h
  · exact h1.2.2
def CbRel (L : List (List UInt8)) (B : Nat) (w : World) (v : Value) (W : World) : Prop := ∃ i : Nat, v = .int .i64 (i : Int) ∧ i ≤ L.length ∧ Blk W B 23 ((mixB L i 0).map bv) ∧ Chg (fun k => k = B) w W
set_option maxRecDepth 100000 in
set_option maxHeartbeats 4000000 in
theorem combc : CombC := by
  intro v L w hr hl0 hl hp
  obtain ⟨A, c, rfl, hc1, hc2, hA⟩ := hr.form
  obtain ⟨b, off, rfl, hb1, hb3⟩ := hA hl0
  have HR := Lib.hid hr
  have HL : Hid (L.length ≤ 1000) := Lib.hid (by omega)
  have HD := Lib.hid (twice_of hp)
  have HP := Lib.hid hp
  have HB1 := Lib.hid hb1
  have HB3 := Lib.hid hb3
  have nI : (L.length : Int) ≤ 8 := by omega
  have nL : (0 : Int) < L.length := by omega
  have hl1 : ¬ (L.length : Int) = 0 := by omega
  have hl2 : ((L.length : Int) == 0) = false := by rw [beq_eq_false_iff_ne]; exact hl1
  have HIK : Hid ((Try.prog.info? 23).map (·.size) = some 32) := Lib.hid (size_of info_key)
  have HZK : Hid ((Try.prog.info? 23).bind (·.zero) = some (.agg (zeros32.map bv).toArray)) := Lib.hid (zero_of info_key)
  have HZM : Hid ((zeros32.map bv).length = 32) := Lib.hid (by simp [zeros32])
  have HIS : Hid ((Try.prog.info? 31).map (·.size) = some 33) := Lib.hid (size_of info_share)
  have HZ : Hid ((Try.prog.info? 31).bind (·.zero) = some (.agg (zeros33.map bv).toArray)) := Lib.hid (zero_of info_share)
  have HZL : Hid ((zeros33.map bv).length = 33) := Lib.hid (by simp [zeros33])
  obtain ⟨W0, hW0⟩ : ∃ W : World, W = w.alloc (.cells (zeros32.map bv).toArray 23) := ⟨_, rfl⟩
  have R0 : Hid (Blk W0 w.heap.size 23 (zeros32.map bv)) := Lib.hid (by rw [hW0]; exact Blk.made w _ _)
  have D0 : Hid (Below w.heap.size w W0) := Lib.hid (by rw [hW0]; exact (Below.refl _ _).alloc (Nat.le_refl _) _)
  clear hr hA hl0 hl hp hb1 hb3
  go_enter Try.func11, Try.ntmps11
  go_upto_region 1 with (refine wpList_alloc_z rfl 23 rfl _ HZK.out w.heap.size rfl ?_)
  rw [← hW0]
  clear hW0
  go_wp2_with (fail)
  refine (places_any _ L W0 (HR.out.below D0.out) HL.out).mono ?_
  rintro e w1 ⟨rfl, hb1⟩
  rw [HP.out]
  have R1 := Lib.hid (R0.out.below hb1 R0.out.lt)
  have D1 := Lib.hid (D0.out.trans (hb1.mono D0.out.size))
  clear hb1
  go_wp2_with (fail)
  refine (buildc w1).mono ?_
  rintro e w2 ⟨TB, rfl, hT, hb2⟩
  have T2 := Lib.hid hT
  have R2 := Lib.hid (R1.out.below hb2 R1.out.lt)
  have D2 := Lib.hid (D1.out.trans (hb2.mono D1.out.size))
  clear hT hb2
  obtain ⟨W3, hW3⟩ : ∃ W : World, W = w2.alloc (.cells (zeros32.map bv).toArray 23) := ⟨_, rfl⟩
  have B3 : Hid (Blk W3 w2.heap.size 23 ((mixB L 0 0).map bv)) := Lib.hid (by rw [mixB_zero, hW3]; exact Blk.made w2 _ _)
  have T3 : Hid (Tab W3 TB) := Lib.hid (by rw [hW3]; exact Blk.alloc T2.out _)
  have R3 : Hid (Blk W3 w.heap.size 23 (zeros32.map bv)) := Lib.hid (by rw [hW3]; exact R2.out.alloc _)
  have D3 : Hid (Below w.heap.size w W3) := Lib.hid (by rw [hW3]; exact D2.out.alloc D2.out.size _)
  have N1 : Hid (TB < w2.heap.size) := Lib.hid (Blk.lt T2.out)
  have N2 : Hid (w.heap.size < w2.heap.size) := Lib.hid R2.out.lt
  go_upto_region 8 with (refine wpList_alloc_z rfl 23 rfl _ HZK.out w2.heap.size rfl ?_)
  rw [← hW3]
  clear hW3 HZK R0 D0 R1 D1 R2 D2 T2
  go_wp2_with (fail)
  go_loopw [25] (fun v wx => CbRel L w2.heap.size W3 v wx) (fun v _ => L.length - (intOf v).toNat)
  case atStart => exact ⟨0, rfl, by omega, B3.out, Chg.refl _ _⟩
  case round =>
    obtain ⟨i, rfl, hi, hblk, hch⟩ := hrel
    have HCH := Lib.hid hch
    have HBK := Lib.hid hblk
    have HT : Hid (Tab wr TB) := Lib.hid (hch.blk T3.out (Nat.ne_of_lt N1.out))
    have HRR : Hid (Blk wr w.heap.size 23 (zeros32.map bv)) := Lib.hid (hch.blk R3.out (Nat.ne_of_lt N2.out))
    have HDD : Hid (Below w.heap.size w wr) := Lib.hid (D3.out.trans (hch.below (fun k hk => by rw [hk]; exact Nat.le_of_lt N2.out) D3.out.size))
    clear hblk hch
    by_cases hlt : i < L.length
    · have hI : (i : Int) < L.length := by omega
      obtain ⟨sh, hsh⟩ : ∃ sh, sh = L.getD i [] := ⟨_, rfl⟩
      obtain ⟨y, hy⟩ : ∃ y, y = XP L i := ⟨_, rfl⟩
      have HSL : Hid (sh.length = 33) := Lib.hid (by rw [hsh]; exact len_get HR.out.1 hlt)
      have HSM : Hid ((sh.map bv).length = 33) := Lib.hid (by rw [List.length_map]; exact HSL.out)
      have HRG : Hid (wr.rangeAt b (off + i * 33) (sh.map bv)) := Lib.hid (by
        rw [hsh]
        exact el_range HR.out.1 (fun i j hi hj => (HDD.out.cell (p := ⟨b, off + i * 33 + j, none⟩) HB1.out).trans (HB3.out i j hi hj)) hlt)
      have HX0 : Hid ((sh.map bv)[0]? = some (.int .u8 (y.toNat : Int))) := Lib.hid (by
        have hl := HSL.out
        have h0 : sh[0]? = some (XP L i) := by
          show _ = some ((L.getD i []).getD 0 0)
          rw [← hsh, List.getD, List.getElem?_eq_getElem (by omega)]
          rfl
        rw [List.getElem?_map, h0, hy]
        rfl)
      obtain ⟨ys, hys⟩ : ∃ ys, ys = sh.drop 1 := ⟨_, rfl⟩
      have HYL : Hid (ys.length = 32) := Lib.hid (by rw [hys, List.length_drop, HSL.out])
      have HYM : Hid ((ys.map bv).length = 32) := Lib.hid (by rw [List.length_map]; exact HYL.out)
      have HYV : Hid (∀ j, j < 32 → ys.getD j 0 = shY (L.getD i []) j) := Lib.hid fun j _ => by
        unfold shY
        rw [← hsh, hys, List.getD, List.getElem?_drop, List.getD, Nat.add_comm 1 j]
      have HYS := Lib.hid hys
      obtain ⟨W4, hW4⟩ : ∃ W : World, W = wr.alloc (.cells (zeros33.map bv).toArray 31) := ⟨_, rfl⟩
      have K4 : Hid (Blk W4 wr.heap.size 31 (zeros33.map bv)) := Lib.hid (by rw [hW4]; exact Blk.made _ _ _)
      have L4 : Hid (Below wr.heap.size wr W4) := Lib.hid (by rw [hW4]; exact (Below.refl _ _).alloc (Nat.le_refl _) _)
      have HK := Lib.hid hlt
      have HY := Lib.hid hy
      clear hsh hy hlt hi hys
      go_upto_region 11 with (first
        | refine wpList_load_mid rfl 31 (.tmp 27) rfl b (off + i * 33) rfl (sh.map bv) _ HRG.out Try.underlying31 rfl (by rw [HSM.out]; exact HIS.out) ?_
        | (refine wpList_alloc_z rfl 31 rfl _ HZ.out wr.heap.size rfl ?_
           rw [← hW4])
        | (refine wpList_store_blk rfl 31 _ _ rfl wr.heap.size 31 _ K4.out (sh.map bv) rfl rfl (by rw [HSM.out, HZL.out]) (by rw [HSM.out]; exact HIS.out) (bv_one _) ?_
           intro w5 hb5 hs5
           have K5 := Lib.hid hb5
           have L5 := Lib.hid (L4.out.trans hs5.below)
           clear hb5 hs5))
      clear hW4 K4 L4 HRG
      have c0 : w5.cell? ⟨wr.heap.size, 0, none⟩ = some (.int .u8 (y.toNat : Int)) := by rw [K5.out.cell]; exact HX0.out
      have HT5 : Hid (Tab w5 TB) := Lib.hid (Blk.below HT.out L5.out (Blk.lt HT.out))
      have D5 : Hid (Below w.heap.size w w5) := Lib.hid (HDD.out.trans (L5.out.mono HDD.out.size))
      go_wp2_with (fail)
      rw [HY.out]
      refine (weight_any TB i _ L w5 HT5.out (HR.out.below D5.out) HL.out HK.out HD.out).mono ?_
      rintro e w6 ⟨rfl, hb6⟩
      have L6 : Hid (Below wr.heap.size wr w6) := Lib.hid (L5.out.trans (hb6.mono L5.out.size))
      have K6 := Lib.hid (K5.out.below hb6 K5.out.lt)
      have RG6 : Hid (w6.rangeAt wr.heap.size 1 (ys.map bv)) := Lib.hid (fun j u hu => by
        rw [K6.out.cell, List.getElem?_map]
        rw [List.getElem?_map, HYS.out, List.getElem?_drop] at hu
        exact hu)
      have T6 : Hid (Tab w6 TB) := Lib.hid (Blk.below HT.out L6.out (Blk.lt HT.out))
      have B6 := Lib.hid (HBK.out.below L6.out HBK.out.lt)
      clear hb6 c0 K5 L5 D5 HT5
      go_wp2_with (refine wpList_load_mid rfl 23 (.tmp 34) rfl wr.heap.size 1 rfl (ys.map bv) _ RG6.out Try.underlying23 rfl (by rw [HYM.out]; exact HIK.out) ?_)
      refine cbj_loop _ _ _ _ _ _ _ _ _ _ _ _ _ _ _ _ _ _ _ _ _ _ _ _ _ _ _ _ _ _ _ _ _ _ _ _ _ _ _ _ _ _ _ _ _ _ _ L i w2.heap.size TB ys w6 T6 (Nat.ne_of_lt N1.out) HYL HYV B6 (Lib.hid ?_)
      intro u10 u11 u36 u37 u38 u39 u40 u41 u42 u43 u44 u45 u46 u47 u48 u49 w7 B7 S7
      have HC7 : Hid (Chg (fun k => k = w2.heap.size) W3 w7) := Lib.hid (chg_more HCH.out (chg_more (chg_new L6.out) (chg_sole S7.out)))
      clear RG6 T6 B6 S7 L6
      go_wp2_with (fail)
      go_roundw
      case rel => exact ⟨i + 1, by go_num, by have := HK.out; omega, B7.out, HC7.out⟩
      case measure => have := HK.out; simp [intOf]; omega
    · obtain rfl : i = L.length := by omega
      have HBE : Hid (Blk wr w2.heap.size 23 ((combB L).map bv)) := Lib.hid (by rw [← mixB_end]; exact HBK.out)
      have HCM : Hid (((combB L).map bv).length = 32) := Lib.hid (by rw [List.length_map, combB_length])
      clear hi hlt HBK
      go_wp2_with (first
        | refine wpList_load_blk rfl 23 (.tmp 6) rfl w2.heap.size rfl 23 ((combB L).map bv) _ HBE.out Try.underlying23 rfl (by rw [HCM.out]; exact HIK.out) ?_
        | (refine wpList_store_blk rfl 23 _ _ rfl w.heap.size 23 _ HRR.out ((combB L).map bv) rfl rfl (by rw [HCM.out, HZM.out]) (by rw [HCM.out]; exact HIK.out) (bv_one _) ?_
           intro w9 hb9 hs9))
      refine bodyPost_ret (v := .tuple #[arrV (combB L), .int .i64 0]) ?_ rfl ⟨rfl, HDD.out.trans (hs9.below.mono (Nat.le_refl _))⟩
      exact results_blk_tmp (ty := 23) Try.results11 _ w9 w.heap.size 23 ((combB L).map bv) _ _ rfl rfl hb9 Try.underlying23 rfl (by rw [HCM.out]; exact HIK.out)
end Go.Proofs.Ytpegnafapjcanaa
