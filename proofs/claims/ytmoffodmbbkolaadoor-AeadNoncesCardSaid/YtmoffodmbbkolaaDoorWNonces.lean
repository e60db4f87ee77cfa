/- The walk of 'AeadNonces' (law 6): any node's nonce of any count is the document's; unlike nodes, or counts, have unlike nonces; they are told by it. Premises: the contracts of aead's Seal, NonceOf and CountOf; the table of the places as it is laid. -/
import Derived.Test.YtmoffodmbbkolaaDoorPart25
import Derived.Test.YtmoffodmbbkolaaDoorNonceM
import Derived.Test.YtmoffodmbbkolaaDoorPart3
import Derived.Test.YtmoffodmbbkolaaDoorArrAll
import Derived.Deep.Cut
import Derived.Deep.RegionHeld
import Derived.Deep.MidRow
namespace Go.Proofs.YtmoffodmbbkolaaDoor.aeadNonces
open Go.RowKit

/-- What NonceOf answers. -/
def nonceX (a c : Nat) : List UInt8 := if 4611686018427387904 < c then List.replicate 12 0 else nonceB a c
def nonceE (c : Nat) : Nat := if 4611686018427387904 < c then 12 else 0
theorem nonceX_length (a c : Nat) : (nonceX a c).length = 12 := by
  unfold nonceX
  split
  · rfl
  · exact nonceB_length _ _
/-- What stands behind the two nonces. -/
structure NS (w : World) (XB YB : Nat) (xcs ycs : List Value) (V : World) : Prop where
  low : Below w.heap.size w V
  xb : Blk V XB 25 xcs
  yb : Blk V YB 25 ycs
theorem NS.on {w V V' : World} {XB YB : Nat} {xcs ycs : List Value} (h : NS w XB YB xcs ycs V) (hb : Below V.heap.size V V') : NS w XB YB xcs ycs V' :=
  ⟨h.low.trans (hb.mono h.low.size), h.xb.below hb h.xb.lt, h.yb.below hb h.yb.lt⟩
theorem NS.drew {w V : World} {XB YB : Nat} {xcs ycs : List Value} (h : NS w XB YB xcs ycs V) : NS w XB YB xcs ycs V.drew := h.on (Below.refl _ _).drew
set_option maxRecDepth 100000 in
set_option maxHeartbeats 2000000 in
theorem walkC (HS : SealC) (HNO : NonceC) (HCO : CountC) (a0 a1 a2 a3 : Int) (w : World) (k0 : (Lit.int .u16 a0).wf = true) (k1 : (Lit.int .u16 a1).wf = true) (k2 : (Lit.int .u64 a2).wf = true) (k3 : (Lit.int .u64 a3).wf = true) (hk : Qs w) :
    Calls Tryd.prog 6 #[.int .u16 a0, .int .u16 a1, .int .u64 a2, .int .u64 a3] w fun e w' => e = .returned (.bool true) ∧ Below w.heap.size w w' := by
  obtain ⟨i0, hi, hz0, hz1, hz2⟩ := info_parts info_u8
  have b0 := bounds_u16 k0
  have b1 := bounds_u16 k1
  have b2 := bounds_u64 k2
  have b3 := bounds_u64 k3
  obtain ⟨a, rfl⟩ : ∃ m : Nat, a0 = (m : Int) := ⟨a0.toNat, by omega⟩
  obtain ⟨b, rfl⟩ : ∃ m : Nat, a1 = (m : Int) := ⟨a1.toNat, by omega⟩
  obtain ⟨c, rfl⟩ : ∃ m : Nat, a2 = (m : Int) := ⟨a2.toNat, by omega⟩
  obtain ⟨d, rfl⟩ : ∃ m : Nat, a3 = (m : Int) := ⟨a3.toNat, by omega⟩
  have HB : Hid (a < 65536 ∧ b < 65536 ∧ c < 18446744073709551616 ∧ d < 18446744073709551616) := Lib.hid (by omega)
  have HIN : Hid ((Tryd.prog.info? 25).map (·.size) = some 12) := by show _ = _; kernel_rfl
  have HQ0 := Lib.hid hk
  obtain ⟨xs, hxs⟩ : ∃ xs, xs = nonceX a c := ⟨_, rfl⟩
  obtain ⟨ys, hys⟩ : ∃ ys, ys = nonceX b d := ⟨_, rfl⟩
  obtain ⟨E, hE⟩ : ∃ E, E = nonceE c := ⟨_, rfl⟩
  obtain ⟨F, hF⟩ : ∃ F, F = nonceE d := ⟨_, rfl⟩
  obtain ⟨xcs, hxc⟩ : ∃ cs, cs = xs.map bv := ⟨_, rfl⟩
  obtain ⟨ycs, hyc⟩ : ∃ cs, cs = ys.map bv := ⟨_, rfl⟩
  have HXL : Hid (xs.length = 12) := Lib.hid (by rw [hxs, nonceX_length])
  have HYL : Hid (ys.length = 12) := Lib.hid (by rw [hys, nonceX_length])
  have HXM : Hid (xcs.length = 12) := Lib.hid (by rw [hxc, List.length_map]; exact HXL.out)
  have HYM : Hid (ycs.length = 12) := Lib.hid (by rw [hyc, List.length_map]; exact HYL.out)
  have HXO : Hid (∀ v ∈ xcs, v.oneCell' = true) := Lib.hid (by rw [hxc]; exact bv_one _)
  have HYO : Hid (∀ v ∈ ycs, v.oneCell' = true) := Lib.hid (by rw [hyc]; exact bv_one _)
  have C1 : Hid (∀ V, Calls Tryd.prog 15 #[.int .u16 (a : Int), .int .u64 (c : Int)] V fun e V' => e = .returned (.tuple #[.agg xcs.toArray, .int .i64 (E : Int)]) ∧ Below V.heap.size V V') := Lib.hid fun V => by
    have h := HNO a c V HB.out.1 HB.out.2.2.1
    have e1 : arrV (if 4611686018427387904 < c then List.replicate 12 0 else nonceB a c) = .agg xcs.toArray := by rw [hxc, hxs]; rfl
    have e2 : (if 4611686018427387904 < c then (12 : Int) else 0) = (E : Int) := by rw [hE, nonceE]; split <;> rfl
    rw [e1, e2] at h
    exact h
  have C2 : Hid (∀ V, Calls Tryd.prog 15 #[.int .u16 (b : Int), .int .u64 (d : Int)] V fun e V' => e = .returned (.tuple #[.agg ycs.toArray, .int .i64 (F : Int)]) ∧ Below V.heap.size V V') := Lib.hid fun V => by
    have h := HNO b d V HB.out.2.1 HB.out.2.2.2
    have e1 : arrV (if 4611686018427387904 < d then List.replicate 12 0 else nonceB b d) = .agg ycs.toArray := by rw [hyc, hys]; rfl
    have e2 : (if 4611686018427387904 < d then (12 : Int) else 0) = (F : Int) := by rw [hF, nonceE]; split <;> rfl
    rw [e1, e2] at h
    exact h
  have HXS := Lib.hid hxs
  have HYS := Lib.hid hys
  have HE := Lib.hid hE
  have HF := Lib.hid hF
  have HXC := Lib.hid hxc
  have HYC := Lib.hid hyc
  have cI : (c : Int) ≤ 18446744073709551615 := by omega
  have dI : (d : Int) ≤ 18446744073709551615 := by omega
  have aI : (a : Int) ≤ 65535 := by omega
  have bI : (b : Int) ≤ 65535 := by omega
  clear hxs hys hE hF hxc hyc k0 k1 k2 k3 b0 b1 b2 b3 hk
  go_enter Tryd.func6, Tryd.ntmps6
  go_wp2_with (fail)
  refine (C1.out w).mono ?_
  rintro e w1 ⟨rfl, hb1⟩
  have X1 := Lib.hid (Blk.made w1 25 (List.replicate 12 (Value.int .u8 0)))
  have D1 := Lib.hid hb1
  clear hb1
  go_wp2_with (refine wpList_store_blk rfl 25 _ _ rfl w1.heap.size 25 _ X1.out xcs rfl rfl (by rw [HXM.out]; rfl) (by rw [HXM.out]; exact HIN.out) HXO.out ?_; intro w2 hb2 hs2)
  have D2 : Hid (Below w.heap.size w w2) := Lib.hid ((D1.out.alloc D1.out.size (.cells (List.replicate 12 (Value.int .u8 0)).toArray 25)).trans (hs2.below.mono D1.out.size))
  have X2 := Lib.hid hb2
  clear hb2 hs2 X1 D1
  refine (C2.out w2).mono ?_
  rintro e w3 ⟨rfl, hb3⟩
  have X3 := Lib.hid (X2.out.below hb3 X2.out.lt)
  have Y3 := Lib.hid (Blk.made w3 25 (List.replicate 12 (Value.int .u8 0)))
  have D3 : Hid (Below w.heap.size w w3) := Lib.hid (D2.out.trans (hb3.mono D2.out.size))
  clear hb3 X2 D2
  obtain ⟨XB, hXB⟩ : ∃ B, B = w1.heap.size := ⟨_, rfl⟩
  rw [← hXB] at X3 ⊢
  clear hXB
  by_cases hc : 4611686018427387904 < c
  · have hcI : (4611686018427387904 : Int) < c := by omega
    have eE : E = 12 := by rw [HE.out, nonceE, if_pos hc]
    have eX : xcs = List.replicate 12 (Value.int .u8 0) := by rw [HXC.out, HXS.out, nonceX, if_pos hc]; rfl
    subst eE
    have hx : ∀ W, (Op.equalIn 10000 25 (.agg xcs.toArray) (.agg #[Value.int .u8 0, Value.int .u8 0, Value.int .u8 0, Value.int .u8 0, Value.int .u8 0, Value.int .u8 0, Value.int .u8 0, Value.int .u8 0, Value.int .u8 0, Value.int .u8 0, Value.int .u8 0, Value.int .u8 0])).run Tryd.prog W = .ok true W := fun W => by
      have h := run_equal_bytes W 25 5 12 i0 Tryd.underlying25 Tryd.underlying5 hi hz1 (List.replicate 12 0) (List.replicate 12 0) rfl rfl
      rw [eX]
      simpa [Op.equal, Op.maxDepth, bv] using h
    clear eX
    go_wp2_with (first
      | (refine wpList_store_blk rfl 25 _ _ rfl w3.heap.size 25 _ Y3.out ycs rfl rfl (by rw [HYM.out]; rfl) (by rw [HYM.out]; exact HIN.out) HYO.out ?_
         intro w4 hb4 hs4
         have X4 := Lib.hid (hs4.blk (X3.out.alloc _) (by have := X3.out.lt; omega))
         have D4 : Hid (Below w.heap.size w w4) := Lib.hid ((D3.out.alloc D3.out.size (.cells (List.replicate 12 (Value.int .u8 0)).toArray 25)).trans (hs4.below.mono D3.out.size))
         clear hb4 hs4)
      | (refine wpList_load_blk rfl 25 (.tmp 9) rfl XB rfl 25 _ _ X4.out Tryd.underlying25 rfl (by rw [HXM.out]; exact HIN.out) ?_))
    refine (aeadAwake_any HS _ (HQ0.out.below D4.out)).mono ?_
    rintro e w6 ⟨rfl, hb6⟩
    go_wp2_with (fail)
    go_ret
    exact ⟨rfl, D4.out.trans (hb6.mono D4.out.size)⟩
  have hcI : (c : Int) ≤ 4611686018427387904 := by omega
  have eE : E = 0 := by rw [HE.out, nonceE, if_neg hc]
  subst eE
  have HXN : Hid (xs = nonceB a c) := Lib.hid (by rw [HXS.out, nonceX, if_neg hc])
  clear hc
  have C3 : Hid (∀ V, Calls Tryd.prog 16 #[.agg xcs.toArray] V fun e V' => e = .returned (.tuple #[.int .u16 (a : Int), .int .u64 (c : Int)]) ∧ Below V.heap.size V V') := Lib.hid fun V => by
    have h := HCO a c V HB.out.1 HB.out.2.2.1
    rw [← HXN.out] at h
    rw [HXC.out]
    exact h
  go_wp2_with (first
    | (refine wpList_store_blk rfl 25 _ _ rfl w3.heap.size 25 _ Y3.out ycs rfl rfl (by rw [HYM.out]; rfl) (by rw [HYM.out]; exact HIN.out) HYO.out ?_
       intro w4 hb4 hs4
       have X4 := Lib.hid (hs4.blk (X3.out.alloc _) (by have := X3.out.lt; omega))
       have Y4 := Lib.hid hb4
       have D4 : Hid (Below w.heap.size w w4) := Lib.hid ((D3.out.alloc D3.out.size (.cells (List.replicate 12 (Value.int .u8 0)).toArray 25)).trans (hs4.below.mono D3.out.size))
       clear hb4 hs4)
    | (refine wpList_load_blk rfl 25 (.tmp 9) rfl XB rfl 25 _ _ X4.out Tryd.underlying25 rfl (by rw [HXM.out]; exact HIN.out) ?_))
  obtain ⟨YB, hYB⟩ : ∃ B, B = w3.heap.size := ⟨_, rfl⟩
  rw [← hYB] at Y4 ⊢
  clear hYB X3 Y3 D3
  refine (C3.out w4).mono ?_
  rintro e w5 ⟨rfl, hb5⟩
  have N5 : NS w XB YB xcs ycs w5 := ⟨D4.out.trans (hb5.mono D4.out.size), X4.out.below hb5 X4.out.lt, Y4.out.below hb5 Y4.out.lt⟩
  clear hb5 X4 Y4 D4
  have C4 : Hid (∀ V, NS w XB YB xcs ycs V → Calls Tryd.prog 17 #[.int .u16 (a : Int), .int .u64 (c : Int)] V fun e V' => e = .returned (.agg xcs.toArray) ∧ NS w XB YB xcs ycs V') := Lib.hid fun V hV => by
    rw [HXC.out, HXN.out]
    exact (refNonce_any a c V (by have := HB.out; omega) (by have := HB.out; omega)).mono fun e V' ⟨he, hb⟩ => ⟨he, HXN.out ▸ HXC.out ▸ hV.on hb⟩
  have hxx : ∀ W, (Op.equalIn 10000 25 (.agg xcs.toArray) (.agg xcs.toArray)).run Tryd.prog W = .ok true W := fun W => by
    have h := run_equal_bytes W 25 5 12 i0 Tryd.underlying25 Tryd.underlying5 hi hz1 xs xs HXL.out HXL.out
    rw [← HXC.out] at h
    simpa [Op.equal, Op.maxDepth] using h
  have hu := Tryd.underlying25
  have hsi : (Tryd.prog.info? 25).map (·.size) = some xcs.length := by rw [HXM.out]; exact HIN.out
  go_wp2_with (fail)
  refine wp_region_held_drew (S := (NS w XB YB xcs ycs)) (by kernel_rfl) ?_ (fun hHeld => ?_)
  · (first | assumption | exact NS.drew (by assumption))
  refine take_put (i := 0) (oi := _) (v := ?_) 44 rfl rfl (by kernel_rfl) (by kernel_rfl) (by kernel_rfl) (fun _ _ _ h => h) (Or.inl ⟨by rfl, ?hy0⟩) (by assumption) ?_
  case hy0 => ((intro W hSw); (try dsimp only at hSw); go_simp; try (with_reducible rfl))
  simp only [List.set_cons_zero, List.set_cons_succ]
  refine take_put (i := 1) (oi := _) (v := ?_) 45 rfl rfl (by kernel_rfl) (by kernel_rfl) (by kernel_rfl) (fun _ _ _ h => h) (Or.inl ⟨by rfl, ?hy1⟩) (by assumption) ?_
  case hy1 => ((intro W hSw); (try dsimp only at hSw); go_simp; try (with_reducible rfl))
  simp only [List.set_cons_zero, List.set_cons_succ]
  refine take_put (i := 2) (oi := _) (v := ?_) 46 rfl rfl (by kernel_rfl) (by kernel_rfl) (by kernel_rfl) (fun _ _ _ h => h) (Or.inl ⟨by rfl, ?hy2⟩) (by assumption) ?_
  case hy2 => ((intro W hSw); (try dsimp only at hSw); go_simp; try (with_reducible rfl))
  simp only [List.set_cons_zero, List.set_cons_succ]
  refine take_put (i := 3) (oi := _) (v := _) 47 rfl rfl (by kernel_rfl) (by kernel_rfl) (by kernel_rfl) (fun _ _ _ h => h) (yieldsIf_load_mid (by rfl) _ _ rfl XB 0 rfl xcs _ (fun _ h => blk_range h.xb) hu rfl hsi) (by assumption) ?_
  simp only [List.set_cons_zero, List.set_cons_succ]
  refine take_put (i := 4) (oi := _) (v := ?_) 48 rfl rfl (by kernel_rfl) (by kernel_rfl) (by kernel_rfl) (fun _ _ _ h => h) (Or.inl ⟨by rfl, ?hy4⟩) (by assumption) ?_
  case hy4 => ((intro W hSw); (try dsimp only at hSw); go_simp; try (with_reducible rfl))
  simp only [List.set_cons_zero, List.set_cons_succ]
  refine take_put (i := 5) (oi := _) (v := ?_) 49 rfl rfl (by kernel_rfl) (by kernel_rfl) (by kernel_rfl) (fun _ _ _ h => h) (Or.inl ⟨by rfl, ?hy5⟩) (by assumption) ?_
  case hy5 => ((intro W hSw); (try dsimp only at hSw); go_simp; try (with_reducible rfl))
  simp only [List.set_cons_zero, List.set_cons_succ]
  refine wpAnyH_ready (rs := [6]) (by kernel_rfl) (by simp) ?_
  refine AllReadyH.cons (o := _) rfl (fun K hK => ?_) AllReadyH.nil
  go_simp
  (with_reducible refine (C4.out _ ?_).mono ?_; (first | assumption | exact NS.drew (by assumption)); rintro e r1 ⟨rfl, sv1⟩)
  refine hK.out _ _ ?_ (fun hHeld => ?_)
  · (first | assumption | exact NS.drew (by assumption))
  clear hK K
  try simp only [Act.put, List.setIfInBounds_toArray, List.set_cons_zero, List.set_cons_succ]
  refine take_put (i := 7) (oi := _) (v := ?_) 51 rfl rfl (by kernel_rfl) (by kernel_rfl) (by kernel_rfl) (fun _ _ _ h => h) (Or.inl ⟨by rfl, ?hy7⟩) (by assumption) ?_
  case hy7 => ((intro W hSw); (try dsimp only at hSw); go_simp; try (with_reducible rfl))
  simp only [List.set_cons_zero, List.set_cons_succ]
  refine take_put (i := 8) (oi := _) (v := ?_) 52 rfl rfl (by kernel_rfl) (by kernel_rfl) (by kernel_rfl) (fun _ _ _ h => h) (Or.inl ⟨by rfl, ?hy8⟩) (by assumption) ?_
  case hy8 => ((intro W hSw); (try dsimp only at hSw); go_simp; try (with_reducible rfl))
  simp only [List.set_cons_zero, List.set_cons_succ]
  refine take_put (i := 9) (oi := _) (v := ?_) 53 rfl rfl (by kernel_rfl) (by kernel_rfl) (by kernel_rfl) (fun _ _ _ h => h) (Or.inl ⟨by rfl, ?hy9⟩) (by assumption) ?_
  case hy9 => ((intro W hSw); (try dsimp only at hSw); go_simp; try (with_reducible rfl))
  simp only [List.set_cons_zero, List.set_cons_succ]
  refine take_put (i := 10) (oi := _) (v := ?_) 54 rfl rfl (by kernel_rfl) (by kernel_rfl) (by kernel_rfl) (fun _ _ _ h => h) (Or.inl ⟨by rfl, ?hy10⟩) (by assumption) ?_
  case hy10 => ((intro W hSw); (try dsimp only at hSw); go_simp; try (with_reducible rfl))
  simp only [List.set_cons_zero, List.set_cons_succ]
  refine take_put (i := 11) (oi := _) (v := ?_) 55 rfl rfl (by kernel_rfl) (by kernel_rfl) (by kernel_rfl) (fun _ _ _ h => h) (Or.inl ⟨by rfl, ?hy11⟩) (by assumption) ?_
  case hy11 => ((intro W hSw); (try dsimp only at hSw); go_simp; try (with_reducible rfl))
  simp only [List.set_cons_zero, List.set_cons_succ]
  refine take_put (i := 12) (oi := _) (v := ?_) 56 rfl rfl (by kernel_rfl) (by kernel_rfl) (by kernel_rfl) (fun _ _ _ h => h) (Or.inl ⟨by rfl, ?hy12⟩) (by assumption) ?_
  case hy12 => ((intro W hSw); (try dsimp only at hSw); go_simp; try (with_reducible rfl))
  simp only [List.set_cons_zero, List.set_cons_succ]
  refine take_put (i := 13) (oi := _) (v := ?_) 57 rfl rfl (by kernel_rfl) (by kernel_rfl) (by kernel_rfl) (fun _ _ _ h => h) (Or.inl ⟨by rfl, ?hy13⟩) (by assumption) ?_
  case hy13 => ((intro W hSw); (try dsimp only at hSw); go_simp; try (with_reducible rfl))
  simp only [List.set_cons_zero, List.set_cons_succ]
  refine take_put (i := 14) (oi := _) (v := ?_) 58 rfl rfl (by kernel_rfl) (by kernel_rfl) (by kernel_rfl) (fun _ _ _ h => h) (Or.inl ⟨by rfl, ?hy14⟩) (by assumption) ?_
  case hy14 => ((intro W hSw); (try dsimp only at hSw); go_simp; try (with_reducible rfl))
  simp only [List.set_cons_zero, List.set_cons_succ]
  refine take_put (i := 15) (oi := _) (v := ?_) 59 rfl rfl (by kernel_rfl) (by kernel_rfl) (by kernel_rfl) (fun _ _ _ h => h) (Or.inl ⟨by rfl, ?hy15⟩) (by assumption) ?_
  case hy15 => ((intro W hSw); (try dsimp only at hSw); go_simp; try (with_reducible rfl))
  simp only [List.set_cons_zero, List.set_cons_succ]
  refine take_put (i := 16) (oi := _) (v := ?_) 60 rfl rfl (by kernel_rfl) (by kernel_rfl) (by kernel_rfl) (fun _ _ _ h => h) (Or.inl ⟨by rfl, ?hy16⟩) (by assumption) ?_
  case hy16 => ((intro W hSw); (try dsimp only at hSw); go_simp; try (with_reducible rfl))
  simp only [List.set_cons_zero, List.set_cons_succ]
  refine take_put (i := 17) (oi := _) (v := ?_) 61 rfl rfl (by kernel_rfl) (by kernel_rfl) (by kernel_rfl) (fun _ _ _ h => h) (Or.inl ⟨by rfl, ?hy17⟩) (by assumption) ?_
  case hy17 => ((intro W hSw); (try dsimp only at hSw); go_simp; try (with_reducible rfl))
  simp only [List.set_cons_zero, List.set_cons_succ]
  refine take_put (i := 18) (oi := _) (v := ?_) 62 rfl rfl (by kernel_rfl) (by kernel_rfl) (by kernel_rfl) (fun _ _ _ h => h) (Or.inl ⟨by rfl, ?hy18⟩) (by assumption) ?_
  case hy18 => ((intro W hSw); (try dsimp only at hSw); go_simp; try (with_reducible rfl))
  simp only [List.set_cons_zero, List.set_cons_succ]
  refine wpAnyH_done (by kernel_rfl) ?_ _
  have X6 := Lib.hid hHeld.xb
  have Y6 := Lib.hid hHeld.yb
  have D6 := Lib.hid hHeld.low
  clear hHeld sv1 N5 hxx C1 C2 C3 C4
  by_cases hd : 4611686018427387904 < d
  · have eF : F = 12 := by rw [HF.out, nonceE, if_pos hd]
    subst eF
    go_wp2_with (fail)
    refine (aeadAwake_any HS _ (HQ0.out.below D6.out)).mono ?_
    rintro e w7 ⟨rfl, hb7⟩
    go_wp2_with (fail)
    go_ret
    exact ⟨rfl, D6.out.trans (hb7.mono D6.out.size)⟩
  have eF : F = 0 := by rw [HF.out, nonceE, if_neg hd]
  subst eF
  have HYN : Hid (ys = nonceB b d) := Lib.hid (by rw [HYS.out, nonceX, if_neg hd])
  have hxy : ∀ W, (Op.equalIn 10000 25 (.agg xcs.toArray) (.agg ycs.toArray)).run Tryd.prog W = .ok (decide (xs = ys)) W := fun W => by
    have h := run_equal_bytes W 25 5 12 i0 Tryd.underlying25 Tryd.underlying5 hi hz1 xs ys HXL.out HYL.out
    rw [← HXC.out, ← HYC.out] at h
    simpa [Op.equal, Op.maxDepth] using h
  have HINJ : Hid (xs = ys ↔ a = b ∧ c = d) := Lib.hid (by rw [HXN.out, HYN.out]; exact nonceB_inj HB.out.1 HB.out.2.1 HB.out.2.2.1 HB.out.2.2.2)
  clear hd
  by_cases hab : a = b
  · by_cases hcd : c = d
    · have hde : decide (xs = ys) = true := decide_eq_true (HINJ.out.2 ⟨hab, hcd⟩)
      subst hab hcd
      rw [hde] at hxy
      go_wp2_with (first
        | (refine wpList_load_blk_g 25 (.tmp 9) rfl (by rfl) XB rfl 25 xcs _ X6.out Tryd.underlying25 rfl (by rw [HXM.out]; exact HIN.out) ?_)
        | (refine wpList_load_blk_g 25 (.tmp 11) rfl (by rfl) YB rfl 25 ycs _ Y6.out Tryd.underlying25 rfl (by rw [HYM.out]; exact HIN.out) ?_))
      refine (aeadAwake_any HS _ (HQ0.out.below D6.out)).mono ?_
      rintro e w7 ⟨rfl, hb7⟩
      go_wp2_with (fail)
      go_ret
      exact ⟨rfl, D6.out.trans (hb7.mono D6.out.size)⟩
    · have hde : decide (xs = ys) = false := decide_eq_false (fun h => hcd (HINJ.out.1 h).2)
      have hcdI : (c : Int) ≠ d := by omega
      subst hab
      rw [hde] at hxy
      go_wp2_with (first
        | (refine wpList_load_blk_g 25 (.tmp 9) rfl (by rfl) XB rfl 25 xcs _ X6.out Tryd.underlying25 rfl (by rw [HXM.out]; exact HIN.out) ?_)
        | (refine wpList_load_blk_g 25 (.tmp 11) rfl (by rfl) YB rfl 25 ycs _ Y6.out Tryd.underlying25 rfl (by rw [HYM.out]; exact HIN.out) ?_))
      refine (aeadAwake_any HS _ (HQ0.out.below D6.out)).mono ?_
      rintro e w7 ⟨rfl, hb7⟩
      go_wp2_with (fail)
      go_ret
      exact ⟨rfl, D6.out.trans (hb7.mono D6.out.size)⟩
  · have hde : decide (xs = ys) = false := decide_eq_false (fun h => hab (HINJ.out.1 h).1)
    have habI : (a : Int) ≠ b := by omega
    rw [hde] at hxy
    go_wp2_with (first
      | (refine wpList_load_blk_g 25 (.tmp 9) rfl (by rfl) XB rfl 25 xcs _ X6.out Tryd.underlying25 rfl (by rw [HXM.out]; exact HIN.out) ?_)
      | (refine wpList_load_blk_g 25 (.tmp 11) rfl (by rfl) YB rfl 25 ycs _ Y6.out Tryd.underlying25 rfl (by rw [HYM.out]; exact HIN.out) ?_))
    refine (aeadAwake_any HS _ (HQ0.out.below D6.out)).mono ?_
    rintro e w7 ⟨rfl, hb7⟩
    go_wp2_with (fail)
    go_ret
    exact ⟨rfl, D6.out.trans (hb7.mono D6.out.size)⟩
end Go.Proofs.YtmoffodmbbkolaaDoor.aeadNonces
