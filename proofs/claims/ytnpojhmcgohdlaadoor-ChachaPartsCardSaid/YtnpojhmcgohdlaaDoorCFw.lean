/- The contract of chacha's firstWords. Conditions: a key of 32 bytes, a nonce of 12, a number that fits uint32. -/
import Derived.Test.YtnpojhmcgohdlaaDoorCFirst
import Derived.Deep.RegionLaw
namespace Go.Proofs.YtnpojhmcgohdlaaDoor
open Go.RowKit

theorem zeros16 : (List.replicate 16 0).map wv = List.replicate 16 (Value.int .u32 0) := by simp [wv]
theorem zeros64 : (List.replicate 64 (0 : UInt8)).map bv = List.replicate 64 (Value.int .u8 0) := by simp [bv]
set_option maxRecDepth 100000 in
set_option maxHeartbeats 2000000 in
theorem fw_any (k nonce : List UInt8) (n : Nat) (w : World) (hk : k.length = 32) (hno : nonce.length = 12) (hn : n < 4294967296) :
    Calls Tryd.prog 15 #[arrV k, .int .u32 (n : Int), arrV nonce] w fun e w' => e = .returned (wordsV (chaStart k n nonce)) ∧ Below w.heap.size w w' := by
  have HI40 : Hid ((Tryd.prog.info? 40).map (·.size) = some 16) := by show _ = _; kernel_rfl
  have HZ : Hid ((Tryd.prog.info? 5).map (·.size) = some 1) := by show _ = _; kernel_rfl
  obtain ⟨W1, hW1⟩ : ∃ W : World, W = (((w.alloc (.cells (k.map bv).toArray 23)).alloc (.cells (nonce.map bv).toArray 26)).alloc (.cells (List.replicate 16 (Value.int .u32 0)).toArray 40)).alloc (.cells (List.replicate 64 (Value.int .u8 0)).toArray 27) := ⟨_, rfl⟩
  have S1 : W1.heap.size = w.heap.size + 1 + 1 + 1 + 1 := by rw [hW1]; simp
  have D1 : Hid (Below w.heap.size w W1) := Lib.hid (by rw [hW1]; exact ((((Below.refl _ _).alloc (Nat.le_refl _) _).alloc (by simp) _).alloc (by simp; omega) _).alloc (by simp; omega) _)
  have K1 : Hid (Blk W1 w.heap.size 23 (k.map bv)) := Lib.hid (by rw [hW1]; exact (((Blk.made w _ _).alloc _).alloc _).alloc _)
  have N1 : Hid (Blk W1 (w.heap.size + 1) 26 (nonce.map bv)) := Lib.hid (by
    have h := ((Blk.made (w.alloc (.cells (k.map bv).toArray 23)) 26 (nonce.map bv)).alloc (.cells (List.replicate 16 (Value.int .u32 0)).toArray 40)).alloc (.cells (List.replicate 64 (Value.int .u8 0)).toArray 27)
    rw [World.size_alloc] at h
    rw [hW1]
    exact h)
  have R1 : Hid (Blk W1 (w.heap.size + 1 + 1) 40 (List.replicate 16 (Value.int .u32 0))) := Lib.hid (by
    have h := (Blk.made ((w.alloc (.cells (k.map bv).toArray 23)).alloc (.cells (nonce.map bv).toArray 26)) 40 (List.replicate 16 (Value.int .u32 0))).alloc (.cells (List.replicate 64 (Value.int .u8 0)).toArray 27)
    rw [World.size_alloc, World.size_alloc] at h
    rw [hW1]
    exact h)
  have L1 : Hid (Blk W1 (w.heap.size + 1 + 1 + 1) 27 ((List.replicate 64 (0 : UInt8)).map bv)) := Lib.hid (by
    have h := Blk.made (((w.alloc (.cells (k.map bv).toArray 23)).alloc (.cells (nonce.map bv).toArray 26)).alloc (.cells (List.replicate 16 (Value.int .u32 0)).toArray 40)) 27 ((List.replicate 64 (0 : UInt8)).map bv)
    rw [World.size_alloc, World.size_alloc, World.size_alloc] at h
    rw [hW1, ← zeros64]
    exact h)
  obtain ⟨y1, hy1⟩ := ex_eq1 (splice (List.replicate 64 (0 : UInt8)) 0 chaSign)
  obtain ⟨y2, hy2⟩ := ex_eq1 (splice y1 16 k)
  obtain ⟨y3, hy3⟩ := ex_eq1 (splice y2 52 nonce)
  have HY : Hid (y3 = chaSign ++ k ++ List.replicate 4 0 ++ nonce) := by show _ = _; rw [hy3, hy2, hy1]; exact lay_all k nonce hk hno
  have l1 : y1.length = 64 := by rw [hy1]; rfl
  have l2 : y2.length = 64 := by rw [hy2, length_splice _ _ _ (by omega)]; exact l1
  have l3 : y3.length = 64 := by rw [hy3, length_splice _ _ _ (by omega)]; exact l2
  have HL1 := Lib.hid l1
  have HL2 := Lib.hid l2
  have HL3 := Lib.hid l3
  have HY1 : Hid (splice (List.replicate 64 (0 : UInt8)) 0 (chaSign) = y1) := Lib.hid hy1.symm
  have HY2 : Hid (splice y1 16 (k.take 32) = y2) := Lib.hid (by rw [List.take_of_length_le (by omega)]; exact hy2.symm)
  have HY3 : Hid (splice y2 52 (nonce.take 12) = y3) := Lib.hid (by rw [List.take_of_length_le (by omega)]; exact hy3.symm)
  have HKL := Lib.hid hk
  have HNL := Lib.hid hno
  have HN := Lib.hid hn
  have nI : (n : Int) ≤ 4294967295 := by omega
  have HS1 := Lib.hid S1
  clear hk hno hn hy1 hy2 hy3 l1 l2 l3 S1
  subst hW1
  unfold arrV
  go_enter Tryd.func15, Tryd.ntmps15
  go_wp2_with (first
               | refine Go.Great.wpList_boxTo rfl _ _ rfl _ rfl w.heap.size rfl ((k.map bv).toArray) rfl ?_
               | refine Go.Great.wpList_boxTo rfl _ _ rfl _ rfl (w.heap.size + 1) (by simp) ((nonce.map bv).toArray) rfl ?_
               | refine wpList_copy_str rfl (.tmp 12) _ _ _ rfl 5 Tryd.underlying30 HZ.out (w.heap.size + 1 + 1 + 1) 0 64 64 rfl _ rfl (by decide) 27 (List.replicate 64 (0 : UInt8)) L1.out (by decide) ?_
                 intro w2 hb2 hs2)
  change Blk w2 (w.heap.size + 1 + 1 + 1) 27 ((splice (List.replicate 64 (0 : UInt8)) 0 chaSign).map bv) at hb2
  rw [HY1.out] at hb2
  have L2 := Lib.hid hb2
  have K2 := Lib.hid (hs2.blk K1.out (by omega))
  have N2 := Lib.hid (hs2.blk N1.out (by omega))
  have R2 := Lib.hid (hs2.blk R1.out (by omega))
  have D2 : Hid (Below w.heap.size w w2) := Lib.hid (D1.out.trans (hs2.below.mono (by omega)))
  have S2 : Hid (w2.heap.size = w.heap.size + 1 + 1 + 1 + 1) := Lib.hid (hs2.size.trans HS1.out)
  have rk := K2.out.rd 32 32 (by rw [HKL.out]; omega) (by omega) (by unfold maxLen; omega)
  rw [List.take_of_length_le (by rw [HKL.out]; omega)] at rk
  have RK := Lib.hid rk
  have M2 : Hid (32 = min k.length 48) := Lib.hid (by rw [HKL.out]; rfl)
  have F2 : Hid (16 + 32 ≤ y1.length) := Lib.hid (by rw [HL1.out]; omega)
  clear hb2 hs2 rk L1 K1 N1 R1 D1 HS1
  go_region_law (refine step_copy_rd rfl (.tmp 14) (.tmp 15) 30 30 rfl 5 Tryd.underlying30 HZ.out (some ⟨w.heap.size + 1 + 1 + 1, 16, none⟩) 48 48 (by simp [Act.eval, Act.put]) (.slice (some ⟨w.heap.size, 0, none⟩) 32 32) (by simp [Act.eval, Act.put]) k RK.out (w.heap.size + 1 + 1 + 1) 16 y1 27 L2.out 32 M2.out (fun _ => rfl) F2.out ?_; intro w3 hb3 hs3)
  rw [HY2.out] at hb3
  have L3 := Lib.hid hb3
  have N3 := Lib.hid (hs3.blk N2.out (by omega))
  have R3 := Lib.hid (hs3.blk R2.out (by omega))
  have D3 : Hid (Below w.heap.size w w3) := Lib.hid (D2.out.drew.trans (hs3.below.mono (by omega)))
  have S3 : Hid (w3.heap.size = w.heap.size + 1 + 1 + 1 + 1) := Lib.hid (hs3.size.trans S2.out)
  have rn := N3.out.rd 12 12 (by rw [HNL.out]; omega) (by omega) (by unfold maxLen; omega)
  rw [List.take_of_length_le (by rw [HNL.out]; omega)] at rn
  have RN := Lib.hid rn
  have M3 : Hid (12 = min nonce.length 12) := Lib.hid (by rw [HNL.out]; rfl)
  have F3 : Hid (52 + 12 ≤ y2.length) := Lib.hid (by rw [HL2.out]; omega)
  clear hb3 hs3 rn L2 K2 N2 R2 D2 S2 RK M2 F2
  go_wp2_with (fail)
  go_region_law (refine step_copy_rd rfl (.tmp 17) (.tmp 18) 30 30 rfl 5 Tryd.underlying30 HZ.out (some ⟨w.heap.size + 1 + 1 + 1, 52, none⟩) 12 12 (by simp [Act.eval, Act.put]) (.slice (some ⟨w.heap.size + 1, 0, none⟩) 12 12) (by simp [Act.eval, Act.put]) nonce RN.out (w.heap.size + 1 + 1 + 1) 52 y2 27 L3.out 12 M3.out (fun _ => rfl) F3.out ?_; intro w4 hb4 hs4)
  rw [HY3.out] at hb4
  have L4 : Hid (Blk (w4.alloc (.cells (List.replicate 16 (Value.int .u32 0)).toArray 40)) (w.heap.size + 1 + 1 + 1) 27 (y3.map bv)) := Lib.hid (hb4.alloc _)
  have R4 : Hid (Blk (w4.alloc (.cells (List.replicate 16 (Value.int .u32 0)).toArray 40)) (w.heap.size + 1 + 1) 40 (List.replicate 16 (Value.int .u32 0))) := Lib.hid ((hs4.blk R3.out (by omega)).alloc _)
  have S4 : Hid (w4.heap.size = w.heap.size + 1 + 1 + 1 + 1) := Lib.hid (hs4.size.trans S3.out)
  have D4 : Hid (Below w.heap.size w (w4.alloc (.cells (List.replicate 16 (Value.int .u32 0)).toArray 40))) := Lib.hid ((D3.out.drew.trans (hs4.below.mono (by omega))).alloc (by have := S4.out; omega) _)
  have W4 : Hid (Blk (w4.alloc (.cells (List.replicate 16 (Value.int .u32 0)).toArray 40)) w4.heap.size 40 ((List.replicate 16 0).map wv)) := Lib.hid (by rw [zeros16]; exact Blk.made w4 _ _)
  clear hb4 hs4 L3 N3 R3 D3 S3 RN M3 F3
  go_wp2_with (fail)
  refine fst_loop _ _ _ _ _ _ _ _ _ _ _ _ _ _ _ _ _ _ _ _ _ _ _ _ _ _ _ _ _ _ _ _ _ _ _ (w.heap.size + 1 + 1 + 1) w4.heap.size 40 27 y3 _ HL3 (by have := S4.out; omega) L4 W4 (Lib.hid ?_)
  intro u9 u10 u11 u20 u21 u22 u23 u24 u25 u26 u27 u28 u29 u30 u31 u32 u33 u34 w5 hb5 hs5
  have R5 := Lib.hid (hs5.out.blk R4.out (by have := S4.out; omega))
  have D5 : Hid (Below w.heap.size w w5) := Lib.hid (D4.out.trans (hs5.out.below.mono (by have := S4.out; omega)))
  have f0 : w5.frozen? ⟨w4.heap.size, 12, none⟩ = false := hb5.out.free _
  obtain ⟨u, hu⟩ : ∃ u, w5.cell? ⟨w4.heap.size, 12, none⟩ = some u := by
    refine ⟨((wLE y3 16).map wv)[12]'?_, ?_⟩
    · simp [wLE_length]
    · rw [hb5.out.cell]; exact List.getElem?_eq_getElem _
  have hset := hb5.out.set 12 (wv n)
  rw [← List.map_set, HY.out, first_words k nonce n HKL.out HN.out] at hset
  obtain ⟨res, hres⟩ : ∃ z, z = chaStart k n nonce := ⟨_, rfl⟩
  have HRL : Hid ((res.map wv).length = 16) := by show _ = _; rw [hres, List.length_map]; exact wLE_length _ _
  rw [← hres] at hset
  have W6 : Hid (Blk (w5.setCell ⟨w4.heap.size, 12, none⟩ (.int .u32 (n : Int))) w4.heap.size 40 (res.map wv)) := Lib.hid hset
  have R6 : Hid (Blk (w5.setCell ⟨w4.heap.size, 12, none⟩ (.int .u32 (n : Int))) (w.heap.size + 1 + 1) 40 (List.replicate 16 (Value.int .u32 0))) := Lib.hid ((Sole.setCell w5 w4.heap.size 12 _).blk R5.out (by have := S4.out; omega))
  have D6 : Hid (Below w.heap.size w (w5.setCell ⟨w4.heap.size, 12, none⟩ (.int .u32 (n : Int)))) := Lib.hid (D5.out.trans ((Sole.setCell w5 w4.heap.size 12 _).below.mono (by have := S4.out; omega)))
  have HRES := Lib.hid hres
  clear hset hb5 hs5 hres L4 R4 D4 W4 R5 D5
  go_wp2_with (first
    | (refine wpList_load_blk rfl 40 (.tmp 8) rfl w4.heap.size rfl 40 (res.map wv) _ W6.out Tryd.underlying40 rfl (by rw [HRL.out]; exact HI40.out) ?_)
    | (refine wpList_store_blk rfl 40 (.tmp 6) (.tmp 37) rfl (w.heap.size + 1 + 1) 40 _ R6.out (res.map wv) rfl rfl (by rw [HRL.out]; rfl) (by rw [HRL.out]; exact HI40.out) (wv_one _) ?_; intro w9 hb9 hs9))
  refine bodyPost_ret (v := wordsV (chaStart k n nonce)) ?_ rfl ⟨rfl, D6.out.trans (hs9.below.mono (by omega))⟩
  rw [← HRES.out]
  exact results_blk (ty := 40) Tryd.results15 _ w9 (w.heap.size + 1 + 1) 40 (res.map wv) _ rfl hb9 Tryd.underlying40 rfl (by rw [HRL.out]; exact HI40.out)
end Go.Proofs.YtnpojhmcgohdlaaDoor
