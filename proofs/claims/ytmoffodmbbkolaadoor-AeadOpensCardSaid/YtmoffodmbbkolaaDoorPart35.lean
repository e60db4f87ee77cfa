/- Part 35 of the words that the laws share: CFw, CMain, CXor. No condition of its own: each theorem says its own. -/
import Derived.Test.YtmoffodmbbkolaaDoorPart34
import Derived.Test.YtmoffodmbbkolaaDoorPart37
import Derived.Test.YtmoffodmbbkolaaDoorPart40
import Derived.Deep.RegionLaw

/- The contract of chacha's firstWords. Conditions: a key of 32 bytes, a nonce of 12, a number that fits uint32. -/
namespace Go.Proofs.YtmoffodmbbkolaaDoor
open Go.RowKit

theorem zeros16 : (List.replicate 16 0).map wv = List.replicate 16 (Value.int .u32 0) := by simp [wv]
theorem zeros64 : (List.replicate 64 (0 : UInt8)).map bv = List.replicate 64 (Value.int .u8 0) := by simp [bv]
set_option maxRecDepth 100000 in
set_option maxHeartbeats 2000000 in
theorem fw_any (k nonce : List UInt8) (n : Nat) (w : World) (hk : k.length = 32) (hno : nonce.length = 12) (hn : n < 4294967296) :
    Calls Tryd.prog 27 #[arrV k, .int .u32 (n : Int), arrV nonce] w fun e w' => e = .returned (wordsV (chaStart k n nonce)) ∧ Below w.heap.size w w' := by
  have HI40 : Hid ((Tryd.prog.info? 59).map (·.size) = some 16) := by show _ = _; kernel_rfl
  have HZ : Hid ((Tryd.prog.info? 5).map (·.size) = some 1) := by show _ = _; kernel_rfl
  obtain ⟨W1, hW1⟩ : ∃ W : World, W = (((w.alloc (.cells (k.map bv).toArray 23)).alloc (.cells (nonce.map bv).toArray 25)).alloc (.cells (List.replicate 16 (Value.int .u32 0)).toArray 59)).alloc (.cells (List.replicate 64 (Value.int .u8 0)).toArray 61) := ⟨_, rfl⟩
  have S1 : W1.heap.size = w.heap.size + 1 + 1 + 1 + 1 := by rw [hW1]; simp
  have D1 : Hid (Below w.heap.size w W1) := Lib.hid (by rw [hW1]; exact ((((Below.refl _ _).alloc (Nat.le_refl _) _).alloc (by simp) _).alloc (by simp; omega) _).alloc (by simp; omega) _)
  have K1 : Hid (Blk W1 w.heap.size 23 (k.map bv)) := Lib.hid (by rw [hW1]; exact (((Blk.made w _ _).alloc _).alloc _).alloc _)
  have N1 : Hid (Blk W1 (w.heap.size + 1) 25 (nonce.map bv)) := Lib.hid (by
    have h := ((Blk.made (w.alloc (.cells (k.map bv).toArray 23)) 25 (nonce.map bv)).alloc (.cells (List.replicate 16 (Value.int .u32 0)).toArray 59)).alloc (.cells (List.replicate 64 (Value.int .u8 0)).toArray 61)
    rw [World.size_alloc] at h
    rw [hW1]
    exact h)
  have R1 : Hid (Blk W1 (w.heap.size + 1 + 1) 59 (List.replicate 16 (Value.int .u32 0))) := Lib.hid (by
    have h := (Blk.made ((w.alloc (.cells (k.map bv).toArray 23)).alloc (.cells (nonce.map bv).toArray 25)) 59 (List.replicate 16 (Value.int .u32 0))).alloc (.cells (List.replicate 64 (Value.int .u8 0)).toArray 61)
    rw [World.size_alloc, World.size_alloc] at h
    rw [hW1]
    exact h)
  have L1 : Hid (Blk W1 (w.heap.size + 1 + 1 + 1) 61 ((List.replicate 64 (0 : UInt8)).map bv)) := Lib.hid (by
    have h := Blk.made (((w.alloc (.cells (k.map bv).toArray 23)).alloc (.cells (nonce.map bv).toArray 25)).alloc (.cells (List.replicate 16 (Value.int .u32 0)).toArray 59)) 61 ((List.replicate 64 (0 : UInt8)).map bv)
    rw [World.size_alloc, World.size_alloc, World.size_alloc] at h
    rw [hW1, ← zeros64]
    exact h)
  obtain ⟨y1, hy1⟩ := ex_eq1 (splice (List.replicate 64 (0 : UInt8)) 0 chaSign)
  obtain ⟨y2, hy2⟩ := ex_eq1 (splice y1 16 k)
  obtain ⟨y3, hy3⟩ := ex_eq1 (splice y2 52 nonce)
  have HY : Hid (y3 = chaSign ++ k ++ List.replicate 4 0 ++ nonce) := by show _ = _; rw [hy3, hy2, hy1]; exact lay_all k nonce hk hno
  have l1 : y1.length = 64 := by rw [hy1]; rfl
  have l2 : y2.length = 64 := by rw [hy2, length_splice _ _ _ (by omega)]; exact l1
  have l3 : y3.length = 64 := by rw [hy3, length_splice _ _ _ (by omega)]; exact l2
  have HL1 := Lib.hid l1
  have HL2 := Lib.hid l2
  have HL3 := Lib.hid l3
  have HY1 : Hid (splice (List.replicate 64 (0 : UInt8)) 0 (chaSign) = y1) := Lib.hid hy1.symm
  have HY2 : Hid (splice y1 16 (k.take 32) = y2) := Lib.hid (by rw [List.take_of_length_le (by omega)]; exact hy2.symm)
  have HY3 : Hid (splice y2 52 (nonce.take 12) = y3) := Lib.hid (by rw [List.take_of_length_le (by omega)]; exact hy3.symm)
  have HKL := Lib.hid hk
  have HNL := Lib.hid hno
  have HN := Lib.hid hn
  have nI : (n : Int) ≤ 4294967295 := by omega
  have HS1 := Lib.hid S1
  clear hk hno hn hy1 hy2 hy3 l1 l2 l3 S1
  subst hW1
  unfold arrV
  go_enter Tryd.func27, Tryd.ntmps27
  go_wp2_with (first
               | refine Go.Great.wpList_boxTo rfl _ _ rfl _ rfl w.heap.size rfl ((k.map bv).toArray) rfl ?_
               | refine Go.Great.wpList_boxTo rfl _ _ rfl _ rfl (w.heap.size + 1) (by simp) ((nonce.map bv).toArray) rfl ?_
               | refine wpList_copy_str rfl (.tmp 12) _ _ _ rfl 5 Tryd.underlying26 HZ.out (w.heap.size + 1 + 1 + 1) 0 64 64 rfl _ rfl (by decide) 61 (List.replicate 64 (0 : UInt8)) L1.out (by decide) ?_
                 intro w2 hb2 hs2)
  change Blk w2 (w.heap.size + 1 + 1 + 1) 61 ((splice (List.replicate 64 (0 : UInt8)) 0 chaSign).map bv) at hb2
  rw [HY1.out] at hb2
  have L2 := Lib.hid hb2
  have K2 := Lib.hid (hs2.blk K1.out (by omega))
  have N2 := Lib.hid (hs2.blk N1.out (by omega))
  have R2 := Lib.hid (hs2.blk R1.out (by omega))
  have D2 : Hid (Below w.heap.size w w2) := Lib.hid (D1.out.trans (hs2.below.mono (by omega)))
  have S2 : Hid (w2.heap.size = w.heap.size + 1 + 1 + 1 + 1) := Lib.hid (hs2.size.trans HS1.out)
  have rk := K2.out.rd 32 32 (by rw [HKL.out]; omega) (by omega) (by unfold maxLen; omega)
  rw [List.take_of_length_le (by rw [HKL.out]; omega)] at rk
  have RK := Lib.hid rk
  have M2 : Hid (32 = min k.length 48) := Lib.hid (by rw [HKL.out]; rfl)
  have F2 : Hid (16 + 32 ≤ y1.length) := Lib.hid (by rw [HL1.out]; omega)
  clear hb2 hs2 rk L1 K1 N1 R1 D1 HS1
  go_region_law (refine step_copy_rd rfl (.tmp 14) (.tmp 15) 26 26 rfl 5 Tryd.underlying26 HZ.out (some ⟨w.heap.size + 1 + 1 + 1, 16, none⟩) 48 48 (by simp [Act.eval, Act.put]) (.slice (some ⟨w.heap.size, 0, none⟩) 32 32) (by simp [Act.eval, Act.put]) k RK.out (w.heap.size + 1 + 1 + 1) 16 y1 61 L2.out 32 M2.out (fun _ => rfl) F2.out ?_; intro w3 hb3 hs3)
  rw [HY2.out] at hb3
  have L3 := Lib.hid hb3
  have N3 := Lib.hid (hs3.blk N2.out (by omega))
  have R3 := Lib.hid (hs3.blk R2.out (by omega))
  have D3 : Hid (Below w.heap.size w w3) := Lib.hid (D2.out.drew.trans (hs3.below.mono (by omega)))
  have S3 : Hid (w3.heap.size = w.heap.size + 1 + 1 + 1 + 1) := Lib.hid (hs3.size.trans S2.out)
  have rn := N3.out.rd 12 12 (by rw [HNL.out]; omega) (by omega) (by unfold maxLen; omega)
  rw [List.take_of_length_le (by rw [HNL.out]; omega)] at rn
  have RN := Lib.hid rn
  have M3 : Hid (12 = min nonce.length 12) := Lib.hid (by rw [HNL.out]; rfl)
  have F3 : Hid (52 + 12 ≤ y2.length) := Lib.hid (by rw [HL2.out]; omega)
  clear hb3 hs3 rn L2 K2 N2 R2 D2 S2 RK M2 F2
  go_wp2_with (fail)
  go_region_law (refine step_copy_rd rfl (.tmp 17) (.tmp 18) 26 26 rfl 5 Tryd.underlying26 HZ.out (some ⟨w.heap.size + 1 + 1 + 1, 52, none⟩) 12 12 (by simp [Act.eval, Act.put]) (.slice (some ⟨w.heap.size + 1, 0, none⟩) 12 12) (by simp [Act.eval, Act.put]) nonce RN.out (w.heap.size + 1 + 1 + 1) 52 y2 61 L3.out 12 M3.out (fun _ => rfl) F3.out ?_; intro w4 hb4 hs4)
  rw [HY3.out] at hb4
  have L4 : Hid (Blk (w4.alloc (.cells (List.replicate 16 (Value.int .u32 0)).toArray 59)) (w.heap.size + 1 + 1 + 1) 61 (y3.map bv)) := Lib.hid (hb4.alloc _)
  have R4 : Hid (Blk (w4.alloc (.cells (List.replicate 16 (Value.int .u32 0)).toArray 59)) (w.heap.size + 1 + 1) 59 (List.replicate 16 (Value.int .u32 0))) := Lib.hid ((hs4.blk R3.out (by omega)).alloc _)
  have S4 : Hid (w4.heap.size = w.heap.size + 1 + 1 + 1 + 1) := Lib.hid (hs4.size.trans S3.out)
  have D4 : Hid (Below w.heap.size w (w4.alloc (.cells (List.replicate 16 (Value.int .u32 0)).toArray 59))) := Lib.hid ((D3.out.drew.trans (hs4.below.mono (by omega))).alloc (by have := S4.out; omega) _)
  have W4 : Hid (Blk (w4.alloc (.cells (List.replicate 16 (Value.int .u32 0)).toArray 59)) w4.heap.size 59 ((List.replicate 16 0).map wv)) := Lib.hid (by rw [zeros16]; exact Blk.made w4 _ _)
  clear hb4 hs4 L3 N3 R3 D3 S3 RN M3 F3
  go_wp2_with (fail)
  refine fst_loop _ _ _ _ _ _ _ _ _ _ _ _ _ _ _ _ _ _ _ _ _ _ _ _ _ _ _ _ _ _ _ _ _ _ _ (w.heap.size + 1 + 1 + 1) w4.heap.size 59 61 y3 _ HL3 (by have := S4.out; omega) L4 W4 (Lib.hid ?_)
  intro u9 u10 u11 u20 u21 u22 u23 u24 u25 u26 u27 u28 u29 u30 u31 u32 u33 u34 w5 hb5 hs5
  have R5 := Lib.hid (hs5.out.blk R4.out (by have := S4.out; omega))
  have D5 : Hid (Below w.heap.size w w5) := Lib.hid (D4.out.trans (hs5.out.below.mono (by have := S4.out; omega)))
  have f0 : w5.frozen? ⟨w4.heap.size, 12, none⟩ = false := hb5.out.free _
  obtain ⟨u, hu⟩ : ∃ u, w5.cell? ⟨w4.heap.size, 12, none⟩ = some u := by
    refine ⟨((wLE y3 16).map wv)[12]'?_, ?_⟩
    · simp [wLE_length]
    · rw [hb5.out.cell]; exact List.getElem?_eq_getElem _
  have hset := hb5.out.set 12 (wv n)
  rw [← List.map_set, HY.out, first_words k nonce n HKL.out HN.out] at hset
  obtain ⟨res, hres⟩ : ∃ z, z = chaStart k n nonce := ⟨_, rfl⟩
  have HRL : Hid ((res.map wv).length = 16) := by show _ = _; rw [hres, List.length_map]; exact wLE_length _ _
  rw [← hres] at hset
  have W6 : Hid (Blk (w5.setCell ⟨w4.heap.size, 12, none⟩ (.int .u32 (n : Int))) w4.heap.size 59 (res.map wv)) := Lib.hid hset
  have R6 : Hid (Blk (w5.setCell ⟨w4.heap.size, 12, none⟩ (.int .u32 (n : Int))) (w.heap.size + 1 + 1) 59 (List.replicate 16 (Value.int .u32 0))) := Lib.hid ((Sole.setCell w5 w4.heap.size 12 _).blk R5.out (by have := S4.out; omega))
  have D6 : Hid (Below w.heap.size w (w5.setCell ⟨w4.heap.size, 12, none⟩ (.int .u32 (n : Int)))) := Lib.hid (D5.out.trans ((Sole.setCell w5 w4.heap.size 12 _).below.mono (by have := S4.out; omega)))
  have HRES := Lib.hid hres
  clear hset hb5 hs5 hres L4 R4 D4 W4 R5 D5
  go_wp2_with (first
    | (refine wpList_load_blk rfl 59 (.tmp 8) rfl w4.heap.size rfl 59 (res.map wv) _ W6.out Tryd.underlying59 rfl (by rw [HRL.out]; exact HI40.out) ?_)
    | (refine wpList_store_blk rfl 59 (.tmp 6) (.tmp 37) rfl (w.heap.size + 1 + 1) 59 _ R6.out (res.map wv) rfl rfl (by rw [HRL.out]; rfl) (by rw [HRL.out]; exact HI40.out) (wv_one _) ?_; intro w9 hb9 hs9))
  refine bodyPost_ret (v := wordsV (chaStart k n nonce)) ?_ rfl ⟨rfl, D6.out.trans (hs9.below.mono (by omega))⟩
  rw [← HRES.out]
  exact results_blk (ty := 59) Tryd.results27 _ w9 (w.heap.size + 1 + 1) 59 (res.map wv) _ rfl hb9 Tryd.underlying59 rfl (by rw [HRL.out]; exact HI40.out)
end Go.Proofs.YtmoffodmbbkolaaDoor

/- The contract of chacha's Block: the published block. Conditions: a key of 32 bytes, a nonce of 12, a number that fits uint32; the table of the places as it is laid. -/
namespace Go.Proofs.YtmoffodmbbkolaaDoor
open Go.RowKit

set_option maxRecDepth 100000 in
set_option maxHeartbeats 2000000 in
theorem cmain_any (k nonce : List UInt8) (n : Nat) (w : World) (hk : k.length = 32) (hno : nonce.length = 12) (hn : n < 4294967296) (hq : Qs w) :
    Calls Tryd.prog 29 #[arrV k, .int .u32 (n : Int), arrV nonce] w fun e w' => e = .returned (arrV (chaBlock k n nonce)) ∧ Below w.heap.size w w' := by
  have HI32 : Hid ((Tryd.prog.info? 23).map (·.size) = some 32) := by show _ = _; kernel_rfl
  have HI12 : Hid ((Tryd.prog.info? 25).map (·.size) = some 12) := by show _ = _; kernel_rfl
  have HI64 : Hid ((Tryd.prog.info? 61).map (·.size) = some 64) := by show _ = _; kernel_rfl
  have HKM : Hid ((k.map bv).length = 32) := by show _ = _; rw [List.length_map, hk]
  have HNM : Hid ((nonce.map bv).length = 12) := by show _ = _; rw [List.length_map, hno]
  obtain ⟨W1, hW1⟩ : ∃ W : World, W = ((w.alloc (.cells (k.map bv).toArray 23)).alloc (.cells (nonce.map bv).toArray 25)).alloc (.cells (List.replicate 64 (Value.int .u8 0)).toArray 61) := ⟨_, rfl⟩
  have S1 : W1.heap.size = w.heap.size + 1 + 1 + 1 := by rw [hW1]; simp
  have D1 : Hid (Below w.heap.size w W1) := Lib.hid (by rw [hW1]; exact (((Below.refl _ _).alloc (Nat.le_refl _) _).alloc (by simp) _).alloc (by simp; omega) _)
  have K1 : Hid (Blk W1 w.heap.size 23 (k.map bv)) := Lib.hid (by rw [hW1]; exact ((Blk.made w _ _).alloc _).alloc _)
  have N1 : Hid (Blk W1 (w.heap.size + 1) 25 (nonce.map bv)) := Lib.hid (by
    have h := (Blk.made (w.alloc (.cells (k.map bv).toArray 23)) 25 (nonce.map bv)).alloc (.cells (List.replicate 64 (Value.int .u8 0)).toArray 61)
    rw [World.size_alloc] at h
    rw [hW1]
    exact h)
  have R1 : Hid (Blk W1 (w.heap.size + 1 + 1) 61 (List.replicate 64 (Value.int .u8 0))) := Lib.hid (by
    have h := Blk.made ((w.alloc (.cells (k.map bv).toArray 23)).alloc (.cells (nonce.map bv).toArray 25)) 61 (List.replicate 64 (Value.int .u8 0))
    rw [World.size_alloc, World.size_alloc] at h
    rw [hW1]
    exact h)
  have HC : Hid (∀ W, Calls Tryd.prog 27 #[.agg (k.map bv).toArray, .int .u32 (n : Int), .agg (nonce.map bv).toArray] W fun e w' => e = .returned (.agg ((chaStart k n nonce).map wv).toArray) ∧ Below W.heap.size W w') := Lib.hid fun W => fw_any k nonce n W hk hno hn
  have HS1 := Lib.hid S1
  have HQ := Lib.hid hq
  clear hk hno hn hq S1
  subst hW1
  unfold arrV
  go_enter Tryd.func29, Tryd.ntmps29
  go_wp2_with (first
               | refine Go.Great.wpList_boxTo rfl _ _ rfl _ rfl w.heap.size rfl ((k.map bv).toArray) rfl ?_
               | refine Go.Great.wpList_boxTo rfl _ _ rfl _ rfl (w.heap.size + 1) (by simp) ((nonce.map bv).toArray) rfl ?_
               | refine wpList_load_blk rfl 23 _ rfl w.heap.size rfl 23 (k.map bv) _ K1.out Tryd.underlying23 rfl (by rw [HKM.out]; exact HI32.out) ?_
               | refine wpList_load_blk rfl 25 _ rfl (w.heap.size + 1) rfl 25 (nonce.map bv) _ N1.out Tryd.underlying25 rfl (by rw [HNM.out]; exact HI12.out) ?_)
  refine (HC.out _).mono ?_
  rintro e w2 ⟨rfl, hb2⟩
  have R2 := Lib.hid (R1.out.below hb2 R1.out.lt)
  have D2 : Hid (Below w.heap.size w w2) := Lib.hid (D1.out.trans (hb2.mono D1.out.size))
  clear hb2 R1 D1 K1 N1
  go_wp2_with (fail)
  refine (cblk_any (chaStart k n nonce) _ (wLE_ok _) (HQ.out.below D2.out)).mono ?_
  rintro e w3 ⟨rfl, hb3⟩
  have R3 := Lib.hid (R2.out.below hb3 R2.out.lt)
  have D3 : Hid (Below w.heap.size w w3) := Lib.hid (D2.out.trans (hb3.mono D2.out.size))
  obtain ⟨res, hres⟩ := ex_eq1 (chaOut (chaStart k n nonce) (dblN (chaStart k n nonce) 10) 16)
  have HR : Hid (res.length = 64) := by show _ = _; rw [hres, chaOut_length]
  have HRM : Hid ((res.map bv).length = 64) := by show _ = _; rw [List.length_map, HR.out]
  have HRES : Hid (res = chaBlock k n nonce) := Lib.hid hres
  rw [← hres]
  clear hb3 hres R2 D2
  unfold arrV
  go_wp2_with (refine wpList_store_blk rfl 61 (.tmp 6) (.tmp 11) rfl (w.heap.size + 1 + 1) 61 _ R3.out (res.map bv) rfl rfl (by rw [HRM.out]; rfl) (by rw [HRM.out]; exact HI64.out) (bv_one _) ?_; intro w9 hb9 hs9)
  refine bodyPost_ret (v := arrV (chaBlock k n nonce)) ?_ rfl ⟨rfl, D3.out.trans (hs9.below.mono (by omega))⟩
  rw [← HRES.out]
  exact results_blk (ty := 61) Tryd.results29 _ w9 (w.heap.size + 1 + 1) 61 (res.map bv) _ rfl hb9 Tryd.underlying61 rfl (by rw [HRM.out]; exact HI64.out)
end Go.Proofs.YtmoffodmbbkolaaDoor

/- The contract of chacha's Xor: the published stream over bytes. Conditions: a key of 32 bytes, a nonce of 12, a number that fits uint32; at most 1000000 bytes; the table of the places as it is laid. -/
namespace Go.Proofs.YtmoffodmbbkolaaDoor
open Go.RowKit

theorem cha_word (k nonce : List UInt8) (n : Nat) (hk : k.length = 32) (hn : n < 4294967296) : (chaStart k n nonce).getD 12 0 = n := by
  rw [← first_words k nonce n hk hn, gd_self (by rw [wLE_length]; omega)]
theorem cha_next (k nonce : List UInt8) (n m : Nat) (hk : k.length = 32) (hn : n < 4294967296) (hm : m < 4294967296) : (chaStart k n nonce).set 12 m = chaStart k m nonce := by
  rw [← first_words k nonce n hk hn, List.set_set, first_words k nonce m hk hm]
def XouRel (w0 : World) (k nonce bs : List UInt8) (n NF TO : Nat) (T1 T2 : TypeId) (v : Value) (W : World) : Prop :=
  ∃ q f : Nat, v = .int .i64 (f : Int) ∧ f = 64 * q ∧ f < bs.length + 64 ∧ Blk W NF T1 ((chaStart k ((n + q) % 4294967296) nonce).map wv) ∧ Blk W TO T2 ((rowX (chaXor k nonce n bs) (min f bs.length)).map bv) ∧ Below w0.heap.size w0 W
noncomputable def body_xou : Code := (((Tryd.f18.body.map loopsOf).getD [])[0]?).getD .skip
set_option maxRecDepth 100000 in
set_option maxHeartbeats 2000000 in
theorem xou_loop (c0 c1 c2 c4 c5 c6 c7 c8 c12 c13 c14 c15 c16 c17 c18 c19 c20 c21 c22 c23 c24 c25 c26 c27 c28 c29 c30 c31 c32 c33 c34 c35 c36 c37 c38 c39 c40 c41 c42 c43 c44 c45 c46 c47 c48 c49 c50 c51 c52 c53 c54 c55 c56 c57 : Value) (v : Value) (k nonce bs : List UInt8) (n NF TO : Nat) (T1 T2 : TypeId) (w0 w : World) (hk : Hid (k.length = 32)) (hn : n < 4294967296) (hv : Hid (Rd w0 v bs)) (hqs : Hid (Qs w0)) (hl : bs.length ≤ 1000000) (hf0 : w0.heap.size ≤ NF) (ht0 : w0.heap.size ≤ TO) (hne : NF ≠ TO)
    (h1 : Hid (Blk w NF T1 ((chaStart k n nonce).map wv))) (h2 : Hid (Blk w TO T2 ((rowX (chaXor k nonce n bs) 0).map bv))) (hb0 : Hid (Below w0.heap.size w0 w)) {Q : Exit → Act → World → Prop}
    (HQ : Hid (∀ (u11 u12 u13 u21 u22 u23 u24 u25 u26 u27 u28 u29 u30 u31 u32 u33 u34 u35 u36 u37 u38 u39 u40 u41 u42 u43 u44 u45 u46 u47 u48 u49 u50 u51 u52 u53 u54 u55 u56 : Value) (wx : World), Hid (Blk wx TO T2 ((chaXor k nonce n bs).map bv)) → Hid (Below w0.heap.size w0 wx) → Q (.exit 0) ⟨List.toArray (c0 :: c1 :: c2 :: v :: c4 :: c5 :: c6 :: c7 :: c8 :: (.pointer (some ⟨NF, 0, none⟩)) :: (.slice (some ⟨TO, 0, none⟩) bs.length bs.length) :: u11 :: u12 :: u13 :: c14 :: c15 :: c16 :: c17 :: c18 :: c19 :: c20 :: u21 :: u22 :: u23 :: u24 :: u25 :: u26 :: u27 :: u28 :: u29 :: u30 :: u31 :: u32 :: u33 :: u34 :: u35 :: u36 :: u37 :: u38 :: u39 :: u40 :: u41 :: u42 :: u43 :: u44 :: u45 :: u46 :: u47 :: u48 :: u49 :: u50 :: u51 :: u52 :: u53 :: u54 :: u55 :: u56 :: c57 :: []), []⟩ wx)) :
    (Code.loop body_xou).wp Tryd.prog Q ⟨List.toArray (c0 :: c1 :: c2 :: v :: c4 :: c5 :: c6 :: c7 :: c8 :: (.pointer (some ⟨NF, 0, none⟩)) :: (.slice (some ⟨TO, 0, none⟩) bs.length bs.length) :: (.int .i64 0) :: c12 :: c13 :: c14 :: c15 :: c16 :: c17 :: c18 :: c19 :: c20 :: c21 :: c22 :: c23 :: c24 :: c25 :: c26 :: c27 :: c28 :: c29 :: c30 :: c31 :: c32 :: c33 :: c34 :: c35 :: c36 :: c37 :: c38 :: c39 :: c40 :: c41 :: c42 :: c43 :: c44 :: c45 :: c46 :: c47 :: c48 :: c49 :: c50 :: c51 :: c52 :: c53 :: c54 :: c55 :: c56 :: c57 :: []), []⟩ w := by
  have HI40 : Hid ((Tryd.prog.info? 59).map (·.size) = some 16) := by show _ = _; kernel_rfl
  have HI64 : Hid ((Tryd.prog.info? 61).map (·.size) = some 64) := by show _ = _; kernel_rfl
  obtain ⟨A, cp, rfl, hc1, hc2, hA⟩ := hv.out.form
  have HOLD : Hid (∀ g, (Value.slice A bs.length cp).ownBlock = some g → g < w0.heap.size ∨ bs.length = 0) := Lib.hid fun g hg => by
    rcases Nat.eq_zero_or_pos bs.length with h | h
    · exact .inr h
    · obtain ⟨b, off, rfl, hb1, _⟩ := hA h
      have e : b = g := by simpa [Value.ownBlock] using hg
      exact .inl (by omega)
  have lI : (bs.length : Int) ≤ 1000000 := by omega
  unfold maxLen at hc2
  clear hA
  unfold body_xou
  conv => arg 2; arg 1; whnf
  go_loopw [11] (fun v wx => XouRel w0 k nonce bs n NF TO T1 T2 v wx) (fun v _ => bs.length - (intOf v).toNat)
  case atStart => exact ⟨0, 0, rfl, rfl, by omega, by rw [Nat.add_zero, Nat.mod_eq_of_lt hn]; exact h1.out, by rw [Nat.zero_min]; exact h2.out, hb0.out⟩
  case round =>
    obtain ⟨q, f, rfl, hf, hfl, hb1, hb2, bl⟩ := hrel
    have HF := Lib.hid hf
    have HBL := Lib.hid bl
    by_cases hlt : f < bs.length
    · have hI : (f : Int) < bs.length := by omega
      obtain ⟨m, hm⟩ : ∃ m, m = (n + q) % 4294967296 := ⟨_, rfl⟩
      have hml : m < 4294967296 := by rw [hm]; exact Nat.mod_lt _ (by omega)
      have mI : (m : Int) ≤ 4294967295 := by omega
      rw [← hm] at hb1
      have HM := Lib.hid hm
      have HML := Lib.hid hml
      have HB1 := Lib.hid hb1
      have HB2 : Hid (Blk wr TO T2 ((rowX (chaXor k nonce n bs) f).map bv)) := Lib.hid (by rw [Nat.min_eq_left (by omega)] at hb2; exact hb2)
      have HL16 : Hid (((chaStart k m nonce).map wv).length = 16) := by show _ = _; rw [List.length_map]; exact wLE_length _ _
      have HC : Hid (Calls Tryd.prog 28 #[.agg ((chaStart k m nonce).map wv).toArray] wr fun e w' => e = .returned (.agg ((chaBlock k m nonce).map bv).toArray) ∧ Below wr.heap.size wr w') := Lib.hid (cblk_any (chaStart k m nonce) wr (wLE_ok _) (hqs.out.below bl))
      obtain ⟨bk, hbk⟩ := ex_eq1 (chaBlock k m nonce)
      have HBKL : Hid ((bk.map bv).length = 64) := by show _ = _; rw [List.length_map, hbk, chaBlock_length]
      rw [← hbk] at HC
      have HBK := Lib.hid hbk
      obtain ⟨c, hc⟩ : ∃ c, c = min 64 (bs.length - f) := ⟨_, rfl⟩
      have HCM := Lib.hid hc
      have cI : (c : Int) ≤ 64 := by omega
      have hmin : min (64 : Int) ((bs.length : Int) - (f : Int)) = (c : Int) := by omega
      have fl2 : (0 : Int) ≤ (bs.length : Int) - (f : Int) := by omega
      clear hf hfl hb1 hb2 bl hm hml hbk hc
      go_wp2_with (refine wpList_load_blk rfl 59 (.tmp 9) rfl NF rfl T1 ((chaStart k m nonce).map wv) _ HB1.out Tryd.underlying59 rfl (by rw [HL16.out]; exact HI40.out) ?_)
      refine HC.out.mono ?_
      rintro e w1 ⟨rfl, hbw⟩
      have NS1 := Lib.hid (Blk.made w1 61 (List.replicate 64 (Value.int .u8 0)))
      have F1 : Hid (Blk (w1.alloc (.cells (List.replicate 64 (Value.int .u8 0)).toArray 61)) NF T1 ((chaStart k m nonce).map wv)) := Lib.hid ((HB1.out.below hbw HB1.out.lt).alloc _)
      have T1' : Hid (Blk (w1.alloc (.cells (List.replicate 64 (Value.int .u8 0)).toArray 61)) TO T2 ((rowX (chaXor k nonce n bs) f).map bv)) := Lib.hid ((HB2.out.below hbw HB2.out.lt).alloc _)
      have D1 : Hid (Below w0.heap.size w0 w1) := Lib.hid (HBL.out.trans (hbw.mono HBL.out.size))
      have LF : Hid (NF < w1.heap.size) := Lib.hid (Nat.lt_of_lt_of_le HB1.out.lt hbw.size)
      have LT : Hid (TO < w1.heap.size) := Lib.hid (Nat.lt_of_lt_of_le HB2.out.lt hbw.size)
      clear hbw
      go_wp2_with (refine wpList_store_blk rfl 61 (.tmp 12) (.tmp 28) rfl w1.heap.size 61 _ NS1.out (bk.map bv) rfl rfl (by rw [HBKL.out]; rfl) (by rw [HBKL.out]; exact HI64.out) (bv_one _) ?_
                   intro w2 hb2 hs2)
      have F2 := Lib.hid (hs2.blk F1.out (by have := LF.out; omega))
      have T2' := Lib.hid (hs2.blk T1'.out (by have := LT.out; omega))
      have D2 : Hid (Below w0.heap.size w0 w2) := Lib.hid ((D1.out.alloc D1.out.size _).trans (hs2.below.mono D1.out.size))
      have V2 := Lib.hid (hv.out.below D2.out)
      have N2 : Hid (Blk w2 w1.heap.size 61 ((chaBlock k ((n + q) % 4294967296) nonce).map bv)) := Lib.hid (by rw [← HM.out, ← HBK.out]; exact hb2)
      have HVB : Hid (∀ g, (Value.slice A bs.length cp).ownBlock = some g → g ≠ TO) := Lib.hid fun g hg => by
        rcases HOLD.out g hg with h | h
        · omega
        · omega
      clear hb2 hs2 NS1 F1 T1' D1 HB1 HB2 hmin
      refine xin_loop _ _ _ _ _ _ _ _ _ _ _ _ _ _ _ _ _ _ _ _ _ _ _ _ _ _ _ _ _ _ _ _ _ _ _ _ _ _ _ _ _ _ _ _ _ _ _ _ _ _ _ _ _ k nonce bs n q f c TO w1.heap.size T2 61 w2 V2 HVB hl (by omega) HF (by have := HCM.out; omega) (by have := LT.out; omega) N2 T2' (Lib.hid ?_)
      intro u13 u34 u35 u36 u37 u38 u39 u40 u41 u42 u43 u44 u45 u46 u47 u48 u49 u50 u51 u52 w3 hb3 hs3
      have F3 := Lib.hid (hs3.out.blk F2.out hne)
      have c12 := at_getD F3.out (a := 12) (by rw [show (chaStart k m nonce).length = 16 from wLE_length _ _]; omega) (cha_word k nonce m hk.out HML.out)
      have f12 : w3.frozen? ⟨NF, 12, none⟩ = false := F3.out.free 12
      have D3 : Hid (Below w0.heap.size w0 w3) := Lib.hid (D2.out.trans (hs3.out.below.mono ht0))
      go_wp2_with (fail)
      go_roundw
      case rel =>
        have e : Value.int .u32 (((m : Int) + 1) % 4294967296) = wv ((n + (q + 1)) % 4294967296) := congrArg (Value.int .u32) (by have := HM.out; omega)
        rw [e]
        have h1 := F3.out.set 12 (wv ((n + (q + 1)) % 4294967296))
        rw [← List.map_set, cha_next k nonce m ((n + (q + 1)) % 4294967296) hk.out HML.out (Nat.mod_lt _ (by omega))] at h1
        refine ⟨q + 1, f + 64, by go_num, by have := HF.out; omega, by omega, h1, ?_, D3.out.trans ((Sole.setCell w3 NF 12 _).below.mono hf0)⟩
        have h2 := (Sole.setCell w3 NF 12 (wv ((n + (q + 1)) % 4294967296))).blk hb3.out hne.symm
        rw [show f + c = min (f + 64) bs.length by have := HCM.out; omega] at h2
        exact h2
      case measure => simp [intOf]; omega
    · have fI : (bs.length : Int) ≤ f := by omega
      have HB : Hid (Blk wr TO T2 ((chaXor k nonce n bs).map bv)) := Lib.hid (by
        rw [Nat.min_eq_right (by omega)] at hb2
        have h := rowX_full (chaXor k nonce n bs)
        rw [chaXor_length] at h
        rw [h] at hb2
        exact hb2)
      clear hf hfl hb1 hb2 bl
      go_wp2_with (fail)
      exact HQ.out _ _ _ _ _ _ _ _ _ _ _ _ _ _ _ _ _ _ _ _ _ _ _ _ _ _ _ _ _ _ _ _ _ _ _ _ _ _ _ _ HB HBL
theorem own_of_blk {w : World} {B base : Nat} {t : TypeId} {cs : List Value} (h : Blk w B t cs) (hb : base ≤ B) (hm : cs.length ≤ maxLen) : w.ownsRow base t 1 (.slice (some ⟨B, 0, none⟩) cs.length cs.length) cs.length cs :=
  ⟨by simp, .inr ⟨B, cs.length, cs.toArray, rfl, hb, h, Nat.le_refl _, hm, by simp, by simp⟩⟩
set_option maxRecDepth 100000 in
set_option maxHeartbeats 2000000 in
theorem cxor_any (v : Value) (k nonce bs : List UInt8) (n : Nat) (w : World) (hk : k.length = 32) (hno : nonce.length = 12) (hn : n < 4294967296) (hv : Rd w v bs) (hl : bs.length ≤ 1000000) (hq : Qs w) :
    Calls Tryd.prog 18 #[arrV k, arrV nonce, .int .u32 (n : Int), v] w (Own w 5 (chaXor k nonce n bs)) := by
  obtain ⟨i0, hi, hz0, hz1, hz2⟩ := info_parts info_u8
  have HI40 : Hid ((Tryd.prog.info? 59).map (·.size) = some 16) := by show _ = _; kernel_rfl
  have HI32 : Hid ((Tryd.prog.info? 23).map (·.size) = some 32) := by show _ = _; kernel_rfl
  have HI12 : Hid ((Tryd.prog.info? 25).map (·.size) = some 12) := by show _ = _; kernel_rfl
  have HKM : Hid ((k.map bv).length = 32) := by show _ = _; rw [List.length_map, hk]
  have HNM : Hid ((nonce.map bv).length = 12) := by show _ = _; rw [List.length_map, hno]
  have HSM : Hid (((chaStart k n nonce).map wv).length = 16) := by show _ = _; rw [List.length_map]; exact wLE_length _ _
  obtain ⟨A, cp, rfl, hc1, hc2, _⟩ := hv.form
  obtain ⟨W1, hW1⟩ : ∃ W : World, W = (w.alloc (.cells (k.map bv).toArray 23)).alloc (.cells (nonce.map bv).toArray 25) := ⟨_, rfl⟩
  have D1 : Hid (Below w.heap.size w W1) := Lib.hid (by rw [hW1]; exact ((Below.refl _ _).alloc (Nat.le_refl _) _).alloc (by simp) _)
  have K1 : Hid (Blk W1 w.heap.size 23 (k.map bv)) := Lib.hid (by rw [hW1]; exact (Blk.made w _ _).alloc _)
  have N1 : Hid (Blk W1 (w.heap.size + 1) 25 (nonce.map bv)) := Lib.hid (by
    have h := Blk.made (w.alloc (.cells (k.map bv).toArray 23)) 25 (nonce.map bv)
    rw [World.size_alloc] at h
    rw [hW1]
    exact h)
  have HC : Hid (∀ W, Calls Tryd.prog 27 #[.agg (k.map bv).toArray, .int .u32 (n : Int), .agg (nonce.map bv).toArray] W fun e w' => e = .returned (.agg ((chaStart k n nonce).map wv).toArray) ∧ Below W.heap.size W w') := Lib.hid fun W => fw_any k nonce n W hk hno hn
  have HQ := Lib.hid hq
  have HV := Lib.hid hv
  have HK := Lib.hid hk
  have HN := Lib.hid hn
  have lI : (bs.length : Int) ≤ 1000000 := by omega
  unfold maxLen at hc2
  clear hk hno hn hq hv
  subst hW1
  unfold arrV
  go_enter Tryd.func18, Tryd.ntmps18
  go_wp2_with (first
               | refine Go.Great.wpList_boxTo rfl _ _ rfl _ rfl w.heap.size rfl ((k.map bv).toArray) rfl ?_
               | refine Go.Great.wpList_boxTo rfl _ _ rfl _ rfl (w.heap.size + 1) (by simp) ((nonce.map bv).toArray) rfl ?_
               | refine wpList_load_blk rfl 23 _ rfl w.heap.size rfl 23 (k.map bv) _ K1.out Tryd.underlying23 rfl (by rw [HKM.out]; exact HI32.out) ?_
               | refine wpList_load_blk rfl 25 _ rfl (w.heap.size + 1) rfl 25 (nonce.map bv) _ N1.out Tryd.underlying25 rfl (by rw [HNM.out]; exact HI12.out) ?_)
  refine (HC.out _).mono ?_
  rintro e w2 ⟨rfl, hb2⟩
  have D2 : Hid (Below w.heap.size w w2) := Lib.hid (D1.out.trans (hb2.mono D1.out.size))
  have Z2 := Lib.hid (Blk.made w2 59 (List.replicate 16 (Value.int .u32 0)))
  clear hb2 D1 K1 N1
  go_wp2_with (first
               | refine wpList_store_blk rfl 59 (.tmp 9) (.tmp 17) rfl w2.heap.size 59 _ Z2.out ((chaStart k n nonce).map wv) rfl rfl (by rw [HSM.out]; rfl) (by rw [HSM.out]; exact HI40.out) (wv_one _) ?_
                 intro w3 hb3 hs3
                 have D3 : Hid (Below w.heap.size w w3) := Lib.hid ((D2.out.alloc D2.out.size _).trans (hs3.below.mono D2.out.size))
                 have F3 := Lib.hid hb3
                 have S3 : w3.heap.size = w2.heap.size + 1 := by rw [hs3.size]; simp
                 have HS3 := Lib.hid S3
                 clear hb3 hs3 S3
               | at_make
                 refine wpList_make_full _ rfl _ _ _ rfl w.heap.size 5 i0 _ 1 Tryd.underlying26 hi hz0 hz1 _ _ _ _ bs.length rfl rfl ?_ ?_ ?_ ?_ D3.out.size ?_
                 · rfl
                 · rfl
                 · rw [hz2]; omega
                 · unfold maxLen; omega
                 intro w4 own4 g4)
  have hb4 := blk_of_own own4
  rw [made_one rfl] at hb4
  have T4 : Hid (Blk w4 w3.heap.size 5 ((rowX (chaXor k nonce n bs) 0).map bv)) := Lib.hid (by
    rw [rowX_zero, chaXor_length, List.map_replicate]
    exact hb4)
  have D4 : Hid (Below w.heap.size w w4) := Lib.hid (D3.out.grown g4 D3.out.size (fun q h => by cases h))
  have F4 := Lib.hid (F3.out.grew g4 (by simp))
  clear hb4 own4 g4
  refine xou_loop _ _ _ _ _ _ _ _ _ _ _ _ _ _ _ _ _ _ _ _ _ _ _ _ _ _ _ _ _ _ _ _ _ _ _ _ _ _ _ _ _ _ _ _ _ _ _ _ _ _ _ _ _ _ _ k nonce bs n w2.heap.size w3.heap.size 59 5 w w4 HK HN.out HV HQ hl D2.out.size D3.out.size (by have := HS3.out; omega) F4 T4 D4 (Lib.hid ?_)
  intro u11 u12 u13 u21 u22 u23 u24 u25 u26 u27 u28 u29 u30 u31 u32 u33 u34 u35 u36 u37 u38 u39 u40 u41 u42 u43 u44 u45 u46 u47 u48 u49 u50 u51 u52 u53 u54 u55 u56 w5 hb5 d5
  go_wp2_with (fail)
  go_ret
  have h := own_of_blk hb5.out D3.out.size (by rw [List.length_map, chaXor_length]; unfold maxLen; omega)
  rw [List.length_map, chaXor_length] at h
  refine ⟨_, rfl, ?_, d5.out⟩
  rw [chaXor_length]
  exact h
end Go.Proofs.YtmoffodmbbkolaaDoor
