/- The contract of chacha's Block: the published block. Conditions: a key of 32 bytes, a nonce of 12, a number that fits uint32; the table of the places as it is laid. -/
import Derived.Test.YtnpojhmcgohdlaaDoorCFw
import Derived.Test.YtnpojhmcgohdlaaDoorCBlk
namespace Go.Proofs.YtnpojhmcgohdlaaDoor
open Go.RowKit

set_option maxRecDepth 100000 in
set_option maxHeartbeats 2000000 in
theorem cmain_any (k nonce : List UInt8) (n : Nat) (w : World) (hk : k.length = 32) (hno : nonce.length = 12) (hn : n < 4294967296) (hq : Qs w) :
    Calls Tryd.prog 7 #[arrV k, .int .u32 (n : Int), arrV nonce] w fun e w' => e = .returned (arrV (chaBlock k n nonce)) ∧ Below w.heap.size w w' := by
  have HI32 : Hid ((Tryd.prog.info? 23).map (·.size) = some 32) := by show _ = _; kernel_rfl
  have HI12 : Hid ((Tryd.prog.info? 26).map (·.size) = some 12) := by show _ = _; kernel_rfl
  have HI64 : Hid ((Tryd.prog.info? 27).map (·.size) = some 64) := by show _ = _; kernel_rfl
  have HKM : Hid ((k.map bv).length = 32) := by show _ = _; rw [List.length_map, hk]
  have HNM : Hid ((nonce.map bv).length = 12) := by show _ = _; rw [List.length_map, hno]
  obtain ⟨W1, hW1⟩ : ∃ W : World, W = ((w.alloc (.cells (k.map bv).toArray 23)).alloc (.cells (nonce.map bv).toArray 26)).alloc (.cells (List.replicate 64 (Value.int .u8 0)).toArray 27) := ⟨_, rfl⟩
  have S1 : W1.heap.size = w.heap.size + 1 + 1 + 1 := by rw [hW1]; simp
  have D1 : Hid (Below w.heap.size w W1) := Lib.hid (by rw [hW1]; exact (((Below.refl _ _).alloc (Nat.le_refl _) _).alloc (by simp) _).alloc (by simp; omega) _)
  have K1 : Hid (Blk W1 w.heap.size 23 (k.map bv)) := Lib.hid (by rw [hW1]; exact ((Blk.made w _ _).alloc _).alloc _)
  have N1 : Hid (Blk W1 (w.heap.size + 1) 26 (nonce.map bv)) := Lib.hid (by
    have h := (Blk.made (w.alloc (.cells (k.map bv).toArray 23)) 26 (nonce.map bv)).alloc (.cells (List.replicate 64 (Value.int .u8 0)).toArray 27)
    rw [World.size_alloc] at h
    rw [hW1]
    exact h)
  have R1 : Hid (Blk W1 (w.heap.size + 1 + 1) 27 (List.replicate 64 (Value.int .u8 0))) := Lib.hid (by
    have h := Blk.made ((w.alloc (.cells (k.map bv).toArray 23)).alloc (.cells (nonce.map bv).toArray 26)) 27 (List.replicate 64 (Value.int .u8 0))
    rw [World.size_alloc, World.size_alloc] at h
    rw [hW1]
    exact h)
  have HC : Hid (∀ W, Calls Tryd.prog 15 #[.agg (k.map bv).toArray, .int .u32 (n : Int), .agg (nonce.map bv).toArray] W fun e w' => e = .returned (.agg ((chaStart k n nonce).map wv).toArray) ∧ Below W.heap.size W w') := Lib.hid fun W => fw_any k nonce n W hk hno hn
  have HS1 := Lib.hid S1
  have HQ := Lib.hid hq
  clear hk hno hn hq S1
  subst hW1
  unfold arrV
  go_enter Tryd.func7, Tryd.ntmps7
  go_wp2_with (first
               | refine Go.Great.wpList_boxTo rfl _ _ rfl _ rfl w.heap.size rfl ((k.map bv).toArray) rfl ?_
               | refine Go.Great.wpList_boxTo rfl _ _ rfl _ rfl (w.heap.size + 1) (by simp) ((nonce.map bv).toArray) rfl ?_
               | refine wpList_load_blk rfl 23 _ rfl w.heap.size rfl 23 (k.map bv) _ K1.out Tryd.underlying23 rfl (by rw [HKM.out]; exact HI32.out) ?_
               | refine wpList_load_blk rfl 26 _ rfl (w.heap.size + 1) rfl 26 (nonce.map bv) _ N1.out Tryd.underlying26 rfl (by rw [HNM.out]; exact HI12.out) ?_)
  refine (HC.out _).mono ?_
  rintro e w2 ⟨rfl, hb2⟩
  have R2 := Lib.hid (R1.out.below hb2 R1.out.lt)
  have D2 : Hid (Below w.heap.size w w2) := Lib.hid (D1.out.trans (hb2.mono D1.out.size))
  clear hb2 R1 D1 K1 N1
  go_wp2_with (fail)
  refine (cblk_any (chaStart k n nonce) _ (wLE_ok _) (HQ.out.below D2.out)).mono ?_
  rintro e w3 ⟨rfl, hb3⟩
  have R3 := Lib.hid (R2.out.below hb3 R2.out.lt)
  have D3 : Hid (Below w.heap.size w w3) := Lib.hid (D2.out.trans (hb3.mono D2.out.size))
  obtain ⟨res, hres⟩ := ex_eq1 (chaOut (chaStart k n nonce) (dblN (chaStart k n nonce) 10) 16)
  have HR : Hid (res.length = 64) := by show _ = _; rw [hres, chaOut_length]
  have HRM : Hid ((res.map bv).length = 64) := by show _ = _; rw [List.length_map, HR.out]
  have HRES : Hid (res = chaBlock k n nonce) := Lib.hid hres
  rw [← hres]
  clear hb3 hres R2 D2
  unfold arrV
  go_wp2_with (refine wpList_store_blk rfl 27 (.tmp 6) (.tmp 11) rfl (w.heap.size + 1 + 1) 27 _ R3.out (res.map bv) rfl rfl (by rw [HRM.out]; rfl) (by rw [HRM.out]; exact HI64.out) (bv_one _) ?_; intro w9 hb9 hs9)
  refine bodyPost_ret (v := arrV (chaBlock k n nonce)) ?_ rfl ⟨rfl, D3.out.trans (hs9.below.mono (by omega))⟩
  rw [← HRES.out]
  exact results_blk (ty := 27) Tryd.results7 _ w9 (w.heap.size + 1 + 1) 27 (res.map bv) _ rfl hb9 Tryd.underlying27 rfl (by rw [HRM.out]; exact HI64.out)
end Go.Proofs.YtnpojhmcgohdlaaDoor
