/- The walk of 'ShamirSums' (law 8): what is put together of sums of shares is the sum of what is put together of both. Premises: the contracts of shamir's Split (for the example) and Combine. -/
import Derived.Test.YtpegnafapjcanaaWSUB
namespace Go.Proofs.Ytpegnafapjcanaa.shamirSums
open Go.RowKit

set_option maxRecDepth 100000 in
set_option maxHeartbeats 4000000 in
theorem walkC (HS : SplitC) (HC : CombC) (v0 : Value) (L : List (List UInt8)) (v1 : Value) (M : List (List UInt8)) (w : World) (k0 : Rf 32 w v0 L) (k1 : Rf 32 w v1 M) :
    Calls Try.prog 7 #[v0, v1] w fun e w' => e = .returned (.bool true) ∧ Below w.heap.size w w' := by
  obtain ⟨Al, cl, rfl, hl1, hl2, hA⟩ := k0.form
  obtain ⟨Am, cm, rfl, hm1, hm2, hB⟩ := k1.form
  have HIK : Hid ((Try.prog.info? 23).map (·.size) = some 32) := Lib.hid (size_of info_key)
  have HZ : Hid ((Try.prog.info? 23).bind (·.zero) = some (.agg (zeros32.map bv).toArray)) := Lib.hid (zero_of info_key)
  have HZL : Hid ((zeros32.map bv).length = 32) := Lib.hid (by simp [zeros32])
  have HMM : Hid (M.length ≤ maxLen) := Lib.hid (Nat.le_trans hm1 hm2)
  have k0' := Lib.hid k0
  have k1' := Lib.hid k1
  have HA := Lib.hid hA
  have HB := Lib.hid hB
  have hmm : (M.length : Int) ≤ 9223372036854775807 := by have := HMM.out; unfold maxLen at this; omega
  have hll : (L.length : Int) ≤ 9223372036854775807 := by have := Nat.le_trans hl1 hl2; unfold maxLen at this; omega
  clear k0 k1 hA hB hl1 hl2 hm1 hm2
  by_cases h1 : L.length = 0
  · have g1 : (L.length : Int) = 0 := by omega
    clear h1 k0' k1' HA HB
    go_enter Try.func7, Try.ntmps7
    go_wp2_with (fail)
    refine (shamAwake_any HS _).mono ?_
    rintro e w3 ⟨rfl, hb3⟩
    go_wp2_with (fail)
    go_ret
    exact ⟨rfl, hb3⟩
  have g1 : (L.length : Int) ≠ 0 := by omega
  have g1' : ((L.length : Int) == 0) = false := by rw [beq_eq_false_iff_ne]; exact g1
  have g1'' : (L.length == 0) = false := by rw [beq_eq_false_iff_ne]; exact h1
  have H0 : Hid (0 < L.length) := Lib.hid (by omega)
  by_cases h2 : (8 : Int) < (L.length : Int)
  · clear h1 k0' k1' HA HB
    go_enter Try.func7, Try.ntmps7
    go_wp2_with (fail)
    refine (shamAwake_any HS _).mono ?_
    rintro e w3 ⟨rfl, hb3⟩
    go_wp2_with (fail)
    go_ret
    exact ⟨rfl, hb3⟩
  have g2 : decide ((8 : Int) < (L.length : Int)) = false := decide_eq_false h2
  have H8 : Hid (L.length ≤ 8) := Lib.hid (by omega)
  by_cases h3 : (M.length : Int) < (L.length : Int)
  · have h3' : M.length < L.length := by omega
    clear h1 h2 k0' k1' HA HB
    go_enter Try.func7, Try.ntmps7
    go_wp2_with (fail)
    refine (shamAwake_any HS _).mono ?_
    rintro e w3 ⟨rfl, hb3⟩
    go_wp2_with (fail)
    go_ret
    exact ⟨rfl, hb3⟩
  have g3 : decide ((M.length : Int) < (L.length : Int)) = false := decide_eq_false h3
  have g4 : decide (M.length < L.length) = false := decide_eq_false (by omega)
  have HM : Hid (L.length ≤ M.length) := Lib.hid (by omega)
  obtain ⟨b, o, rfl, hb1, q1⟩ := HA.out H0.out
  obtain ⟨b2, o2, rfl, hb2, q2⟩ := HB.out (by have := H0.out; have := HM.out; omega)
  have HBL : Hid (b < w.heap.size ∧ b2 < w.heap.size) := Lib.hid ⟨hb1, hb2⟩
  have CL : Hid (∀ W, Below w.heap.size w W → ∀ i j, i < L.length → j < 32 → W.cell? ⟨b, o + i * 32 + j, none⟩ = some (bv ((L.getD i []).getD j 0))) := Lib.hid fun W hW i j hi hj => (hW.cell (p := ⟨b, o + i * 32 + j, none⟩) hb1).trans (q1 i j hi hj)
  have CM : Hid (∀ W, Below w.heap.size w W → ∀ i j, i < M.length → j < 32 → W.cell? ⟨b2, o2 + i * 32 + j, none⟩ = some (bv ((M.getD i []).getD j 0))) := Lib.hid fun W hW i j hi hj => (hW.cell (p := ⟨b2, o2 + i * 32 + j, none⟩) hb2).trans (q2 i j hi hj)
  clear h1 h2 h3 hb1 hb2 q1 q2 HA HB
  go_enter Try.func7, Try.ntmps7
  go_wp2_with (fail)
  refine sua_loop _ _ _ _ _ _ _ _ _ _ _ _ _ _ _ _ _ _ _ _ _ _ _ _ _ _ _ _ _ _ _ _ _ _ _ _ _ _ _ _ _ _ _ _ _ _ _ _ _ _ _ _ _ _ _ _ _ _ _ _ _ _ _ _ _ _ _ _ _ _ _ _ _ _ _ _ _ _ _ _ _ _ _ _ _ _ _ _ _ _ _ _ _ _ _ _ _ _ _ _ _ _ _ _ _ _ _ _ _ _ _ _ _ _ _ _ _ _ _ _ _ _ _ _ _ _ L M b o b2 o2 cl cm w H8.out HM.out HMM.out k0' k1' CL CM HBL (Lib.hid ?_)
  intro u8 u9 u10 u11 u35 u36 u37 u38 u39 u40 u41 u42 u43 u44 u45 u46 u47 u48 u49 u50 u51 u52 u53 u54 u55 u56 u57 u58 u59 u60 u61 u62 u63 u64 u65 u66 u67 u68 u69 u70 u71 u72 u73 u74 u75 u76 u77 u78 u79 u80 u81 u82 u83 u84 u85 u86 u87 u88 va vb vc w1 OA OB OC D0
  have P1 : Hid (placesB (shA L L.length) = 0) := Lib.hid (places_x (by rw [shA_length]; exact H8.out) fun j hj => shA_X L (by rw [shA_length] at hj; exact hj))
  have P2 : Hid (placesB (shA M L.length) = 0) := Lib.hid (places_x (by rw [shA_length]; exact H8.out) fun j hj => shA_X M (by rw [shA_length] at hj; exact hj))
  have P3 : Hid (placesB (shC L M L.length) = 0) := Lib.hid (places_x (by rw [shC_length]; exact H8.out) fun j hj => shC_X L M (by rw [shC_length] at hj; exact hj))
  go_wp2_with (fail)
  refine (HC _ (shA L L.length) w1 OA.out.rf (by rw [shA_length]; have := H0.out; omega) (by rw [shA_length]; exact H8.out) P1.out).mono ?_
  rintro e y1 ⟨rfl, hb1⟩
  have T1 : Hid (Below w1.heap.size w1 y1) := Lib.hid hb1
  obtain ⟨c1, hc1⟩ : ∃ c, c = combB (shA L L.length) := ⟨_, rfl⟩
  rw [← hc1]
  have CL1 : Hid ((c1.map bv).length = 32) := Lib.hid (by rw [List.length_map, hc1, combB_length])
  have HC1 := Lib.hid hc1
  clear hb1 hc1
  unfold arrV
  obtain ⟨Y1, hY1⟩ : ∃ W : World, W = y1.alloc (.cells (zeros32.map bv).toArray 23) := ⟨_, rfl⟩
  have K1' : Hid (Blk Y1 y1.heap.size 23 (zeros32.map bv)) := Lib.hid (by rw [hY1]; exact Blk.made _ _ _)
  have T1' : Hid (Below y1.heap.size y1 Y1) := Lib.hid (by rw [hY1]; exact (Below.refl _ _).alloc (Nat.le_refl _) _)
  go_upto_region 17 with (first
    | (refine wpList_alloc_z rfl 23 rfl _ HZ.out y1.heap.size rfl ?_
       rw [← hY1])
    | (refine wpList_store_blk rfl 23 _ _ rfl y1.heap.size 23 _ K1'.out (c1.map bv) rfl rfl (by rw [CL1.out, HZL.out]) (by rw [CL1.out]; exact HIK.out) (bv_one _) ?_
       intro z1 hz1 hs1
       have K1 := Lib.hid hz1
       have S1 := Lib.hid hs1
       clear hz1 hs1))
  have U1 : Hid (Below w1.heap.size w1 z1) := Lib.hid (T1.out.trans ((T1'.out.trans S1.out.below).mono T1.out.size))
  have D1 : Hid (Below w.heap.size w z1) := Lib.hid (D0.out.trans (U1.out.mono D0.out.size))
  have OB1 := Lib.hid (OB.out.lain U1.out)
  have OC1 := Lib.hid (OC.out.lain U1.out)
  go_wp2_with (fail)
  refine (HC _ (shA M L.length) z1 OB1.out.rf (by rw [shA_length]; have := H0.out; omega) (by rw [shA_length]; exact H8.out) P2.out).mono ?_
  rintro e y2 ⟨rfl, hb2⟩
  have T2 : Hid (Below z1.heap.size z1 y2) := Lib.hid hb2
  obtain ⟨c2, hc2⟩ : ∃ c, c = combB (shA M L.length) := ⟨_, rfl⟩
  rw [← hc2]
  have CL2 : Hid ((c2.map bv).length = 32) := Lib.hid (by rw [List.length_map, hc2, combB_length])
  have HC2 := Lib.hid hc2
  clear hb2 hc2
  unfold arrV
  obtain ⟨Y2, hY2⟩ : ∃ W : World, W = y2.alloc (.cells (zeros32.map bv).toArray 23) := ⟨_, rfl⟩
  have K2' : Hid (Blk Y2 y2.heap.size 23 (zeros32.map bv)) := Lib.hid (by rw [hY2]; exact Blk.made _ _ _)
  have T2' : Hid (Below y2.heap.size y2 Y2) := Lib.hid (by rw [hY2]; exact (Below.refl _ _).alloc (Nat.le_refl _) _)
  go_upto_region 18 with (first
    | (refine wpList_alloc_z rfl 23 rfl _ HZ.out y2.heap.size rfl ?_
       rw [← hY2])
    | (refine wpList_store_blk rfl 23 _ _ rfl y2.heap.size 23 _ K2'.out (c2.map bv) rfl rfl (by rw [CL2.out, HZL.out]) (by rw [CL2.out]; exact HIK.out) (bv_one _) ?_
       intro z2 hz2 hs2
       have K2 := Lib.hid hz2
       have S2 := Lib.hid hs2
       clear hz2 hs2))
  have U2 : Hid (Below z1.heap.size z1 z2) := Lib.hid (T2.out.trans ((T2'.out.trans S2.out.below).mono T2.out.size))
  have D2 : Hid (Below w.heap.size w z2) := Lib.hid (D1.out.trans (U2.out.mono D1.out.size))
  have OC2 := Lib.hid (OC1.out.lain U2.out)
  have K1_2 := Lib.hid (K1.out.below U2.out K1.out.lt)
  go_wp2_with (fail)
  refine (HC _ (shC L M L.length) z2 OC2.out.rf (by rw [shC_length]; have := H0.out; omega) (by rw [shC_length]; exact H8.out) P3.out).mono ?_
  rintro e y3 ⟨rfl, hb3⟩
  have T3 : Hid (Below z2.heap.size z2 y3) := Lib.hid hb3
  obtain ⟨c3, hc3⟩ : ∃ c, c = combB (shC L M L.length) := ⟨_, rfl⟩
  rw [← hc3]
  have CL3 : Hid ((c3.map bv).length = 32) := Lib.hid (by rw [List.length_map, hc3, combB_length])
  have HC3 := Lib.hid hc3
  clear hb3 hc3
  unfold arrV
  obtain ⟨Y3, hY3⟩ : ∃ W : World, W = y3.alloc (.cells (zeros32.map bv).toArray 23) := ⟨_, rfl⟩
  have K3' : Hid (Blk Y3 y3.heap.size 23 (zeros32.map bv)) := Lib.hid (by rw [hY3]; exact Blk.made _ _ _)
  have T3' : Hid (Below y3.heap.size y3 Y3) := Lib.hid (by rw [hY3]; exact (Below.refl _ _).alloc (Nat.le_refl _) _)
  go_upto_region 19 with (first
    | (refine wpList_alloc_z rfl 23 rfl _ HZ.out y3.heap.size rfl ?_
       rw [← hY3])
    | (refine wpList_store_blk rfl 23 _ _ rfl y3.heap.size 23 _ K3'.out (c3.map bv) rfl rfl (by rw [CL3.out, HZL.out]) (by rw [CL3.out]; exact HIK.out) (bv_one _) ?_
       intro z3 hz3 hs3
       have K3 := Lib.hid hz3
       have S3 := Lib.hid hs3
       clear hz3 hs3))
  have U3 : Hid (Below z2.heap.size z2 z3) := Lib.hid (T3.out.trans ((T3'.out.trans S3.out.below).mono T3.out.size))
  have D3 : Hid (Below w.heap.size w z3) := Lib.hid (D2.out.trans (U3.out.mono D2.out.size))
  have K1_3 := Lib.hid (K1_2.out.below U3.out K1_2.out.lt)
  have K2_3 := Lib.hid (K2.out.below U3.out K2.out.lt)
  go_wp2_with (fail)
  refine suc_loop _ _ _ _ _ _ _ _ _ _ _ _ _ _ _ _ _ _ _ _ _ _ _ _ _ _ _ _ _ _ _ _ _ _ _ _ _ _ _ _ _ _ _ _ _ _ _ _ _ _ _ _ _ _ _ _ _ _ _ _ _ _ _ _ _ _ _ _ _ _ _ _ _ _ _ _ _ _ _ _ _ _ _ _ _ _ _ _ _ _ _ _ _ _ _ _ _ _ _ _ _ _ _ _ _ _ _ _ _ _ _ _ _ _ _ _ _ _ _ _ _ _ _ _ _ _ _ _ y1.heap.size y2.heap.size y3.heap.size c1 c2 c3 z3 (Lib.hid ⟨by have := CL1.out; simpa using this, by have := CL2.out; simpa using this, by have := CL3.out; simpa using this⟩) (Lib.hid fun k hk => ?hsum) K1_3 K2_3 K3 (Lib.hid ?hrest)
  case hsum =>
    rw [HC1.out, HC2.out, HC3.out]
    exact sums_sum L M L.length hk
  case hrest =>
    intro u4 u18 u104 u105 u106 u107 u108 u109 u110 u111 u112 u113 u114 u115 u116 u117 u118 mm
    go_wp2_with (fail)
    refine (shamAwake_any HS _).mono ?_
    rintro e w9 ⟨rfl, hb9⟩
    go_wp2_with (fail)
    go_ret
    exact ⟨rfl, (below_drewN D3.out mm).trans (hb9.mono D3.out.size)⟩
end Go.Proofs.Ytpegnafapjcanaa.shamirSums
