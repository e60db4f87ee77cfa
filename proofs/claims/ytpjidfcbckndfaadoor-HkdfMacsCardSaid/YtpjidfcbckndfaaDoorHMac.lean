/- The contracts of hkdf's Mac and Extract: the published code of a message by a key. Conditions: at most 900000 bytes each; the table of the rounds as it is laid. -/
import Derived.Test.YtpjidfcbckndfaaDoorCode
namespace Go.Proofs.YtpjidfcbckndfaaDoor
open Go.RowKit

set_option maxRecDepth 100000 in
set_option maxHeartbeats 400000 in
theorem mac_any (vk vm : Value) (key msg : List UInt8) (w : World) (hk : Rd w vk key) (hm : Rd w vm msg) (lk : key.length ≤ 900000) (lm : msg.length ≤ 900000) (hs : Salts w) :
    Calls Tryd.prog 8 #[vk, vm] w fun e w' => e = .returned (arrV (macB key msg)) ∧ Below w.heap.size w w' := by
  have HIS : Hid ((Tryd.prog.info? 26).map (·.size) = some 32) := by show _ = _; kernel_rfl
  have D0 : Below w.heap.size w (w.alloc (.cells (List.replicate 32 (Value.int .u8 0)).toArray 26)) := (Below.refl _ _).alloc (Nat.le_refl _) _
  have HK := Lib.hid (hk.below D0)
  have HM := Lib.hid (hm.below D0)
  have HS := Lib.hid (hs.below D0)
  have HB := Lib.hid (Blk.made w 26 (List.replicate 32 (Value.int .u8 0)))
  have HD0 := Lib.hid D0
  obtain ⟨res, hres⟩ := ex_eq1 (macB key msg)
  have LR : Hid ((res.map bv).length = 32) := by show _ = _; rw [List.length_map, hres, macB_length]
  have HRES := Lib.hid hres
  obtain ⟨A, c, rfl, hc1, hc2, _⟩ := hk.form
  obtain ⟨B, d, rfl, hd1, hd2, _⟩ := hm.form
  have HLM := Lib.hid lm
  clear hk hm hs D0 hres
  go_enter Tryd.func8, Tryd.ntmps8
  go_wp2_with (fail)
  refine (pad_any _ key _ HK.out lk HS.out).mono ?_
  rintro e w1 ⟨rfl, hb1⟩
  have HM1 := Lib.hid (rs_lit1 (t := 22) (HM.out.below hb1))
  have HS1 := Lib.hid (HS.out.below hb1)
  have HB1 := Lib.hid (HB.out.below hb1 HB.out.lt)
  have D1 : Hid (Below w.heap.size w w1) := Lib.hid (HD0.out.trans (hb1.mono HD0.out.size))
  clear hb1
  go_wp2_with (fail)
  refine (code_any key _ [msg] _ HM1.out (by simp) (by simp) (by have := HLM.out; simp; omega) (HS1.out.alloc _)).mono ?_
  rintro e w2 ⟨rfl, hb2⟩
  rw [show macB key [msg].flatten = res by rw [HRES.out]; simp]
  have HB2 := Lib.hid ((HB1.out.alloc _).below hb2 (HB1.out.alloc _).lt)
  have D2 : Hid (Below w.heap.size w w2) := Lib.hid ((D1.out.alloc D1.out.size (.cells #[.slice B msg.length d] 22)).trans (hb2.mono (by have := D1.out.size; simp; omega)))
  clear hb2
  go_wp2_with (refine wpList_store_blk rfl 26 _ _ rfl w.heap.size 26 _ HB2.out (res.map bv) rfl rfl (by rw [LR.out]; rfl) (by rw [LR.out]; exact HIS.out) (bv_one _) ?_; intro w3 hb3 hs3)
  refine bodyPost_ret (v := arrV res) ?_ rfl ⟨by rw [HRES.out], D2.out.trans hs3.below⟩
  exact results_blk (ty := 26) Tryd.results8 _ w3 w.heap.size 26 (res.map bv) _ rfl hb3 Tryd.underlying26 rfl (by rw [LR.out]; exact HIS.out)
set_option maxRecDepth 100000 in
set_option maxHeartbeats 400000 in
theorem extract_any (vk vm : Value) (key msg : List UInt8) (w : World) (hk : Rd w vk key) (hm : Rd w vm msg) (lk : key.length ≤ 900000) (lm : msg.length ≤ 900000) (hs : Salts w) :
    Calls Tryd.prog 9 #[vk, vm] w fun e w' => e = .returned (arrV (macB key msg)) ∧ Below w.heap.size w w' := by
  have HIS : Hid ((Tryd.prog.info? 26).map (·.size) = some 32) := by show _ = _; kernel_rfl
  have D0 : Below w.heap.size w (w.alloc (.cells (List.replicate 32 (Value.int .u8 0)).toArray 26)) := (Below.refl _ _).alloc (Nat.le_refl _) _
  have HK := Lib.hid (hk.below D0)
  have HM := Lib.hid (hm.below D0)
  have HS := Lib.hid (hs.below D0)
  have HB := Lib.hid (Blk.made w 26 (List.replicate 32 (Value.int .u8 0)))
  have HD0 := Lib.hid D0
  obtain ⟨res, hres⟩ := ex_eq1 (macB key msg)
  have LR : Hid ((res.map bv).length = 32) := by show _ = _; rw [List.length_map, hres, macB_length]
  have HRES := Lib.hid hres
  obtain ⟨A, c, rfl, hc1, hc2, _⟩ := hk.form
  obtain ⟨B, d, rfl, hd1, hd2, _⟩ := hm.form
  clear hk hm hs D0 hres
  go_enter Tryd.func9, Tryd.ntmps9
  go_wp2_with (fail)
  refine (mac_any _ _ key msg _ HK.out HM.out lk lm HS.out).mono ?_
  rintro e w1 ⟨rfl, hb1⟩
  rw [← HRES.out]
  have HB1 := Lib.hid (HB.out.below hb1 HB.out.lt)
  have D1 : Hid (Below w.heap.size w w1) := Lib.hid (HD0.out.trans (hb1.mono HD0.out.size))
  clear hb1
  go_wp2_with (refine wpList_store_blk rfl 26 _ _ rfl w.heap.size 26 _ HB1.out (res.map bv) rfl rfl (by rw [LR.out]; rfl) (by rw [LR.out]; exact HIS.out) (bv_one _) ?_; intro w3 hb3 hs3)
  refine bodyPost_ret (v := arrV res) ?_ rfl ⟨by rw [HRES.out], D1.out.trans hs3.below⟩
  exact results_blk (ty := 26) Tryd.results9 _ w3 w.heap.size 26 (res.map bv) _ rfl hb3 Tryd.underlying26 rfl (by rw [LR.out]; exact HIS.out)
end Go.Proofs.YtpjidfcbckndfaaDoor
