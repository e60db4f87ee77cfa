/- The walk of 'AeadLong' (law 6): what is too long isn't sealed, nor opened. Premises: the contracts of aead's Seal and Open; the table of the places as it is laid. -/
import Derived.Test.YtmoffodmbbkolaaDoorPart25
import Derived.Test.YtmoffodmbbkolaaDoorPart3
import Derived.Test.YtmoffodmbbkolaaDoorPart8
import Derived.Test.YtmoffodmbbkolaaDoorPart4
import Derived.Deep.Cut
import Derived.Deep.RegionHeld
import Derived.Deep.MidRow
namespace Go.Proofs.YtmoffodmbbkolaaDoor.aeadLong
open Go.RowKit

def nulls (N : Nat) : List UInt8 := List.replicate N 0
theorem nulls_length (N : Nat) : (nulls N).length = N := List.length_replicate
set_option maxRecDepth 100000 in
set_option maxHeartbeats 2000000 in
theorem walkC (HS : SealC) (HSL : SealL) (HOL : OpenL) (x0 x1 : List UInt8) (a2 : Int) (w : World) (l0 : x0.length = 32) (l1 : x1.length = 12) (k2 : (Lit.int .u8 a2).wf = true) (hk : Qs w) :
    Calls Tryd.prog 5 #[.agg (x0.map bv).toArray, .agg (x1.map bv).toArray, .int .u8 a2] w fun e w' => e = .returned (.bool true) ∧ Below w.heap.size w w' := by
  obtain ⟨i0, hi, hz0, hz1, hz2⟩ := info_parts info_u8
  have b2 := bounds_u8 k2
  obtain ⟨m, rfl⟩ : ∃ m : Nat, a2 = (m : Int) := ⟨a2.toNat, by omega⟩
  have mI : (m : Int) ≤ 255 := by omega
  have HIK : Hid ((Tryd.prog.info? 23).map (·.size) = some 32) := by show _ = _; kernel_rfl
  have HIN : Hid ((Tryd.prog.info? 25).map (·.size) = some 12) := by show _ = _; kernel_rfl
  obtain ⟨kcs, hkc⟩ : ∃ cs, cs = x0.map bv := ⟨_, rfl⟩
  obtain ⟨ncs, hnc⟩ : ∃ cs, cs = x1.map bv := ⟨_, rfl⟩
  have HKM : Hid (kcs.length = 32) := by show _ = _; rw [hkc, List.length_map, l0]
  have HNM : Hid (ncs.length = 12) := by show _ = _; rw [hnc, List.length_map, l1]
  have HEK : Hid (arrV x0 = .agg kcs.toArray) := Lib.hid (by rw [hkc]; rfl)
  have HEN : Hid (arrV x1 = .agg ncs.toArray) := Lib.hid (by rw [hnc]; rfl)
  have L0 := Lib.hid l0
  have L1 := Lib.hid l1
  rw [← hkc, ← hnc]
  obtain ⟨W0, hW0⟩ : ∃ W : World, W = (w.alloc (.cells kcs.toArray 23)).alloc (.cells ncs.toArray 25) := ⟨_, rfl⟩
  have D0 : Hid (Below w.heap.size w W0) := Lib.hid (by rw [hW0]; exact (((Below.refl _ _).alloc (Nat.le_refl _) _).alloc (by simp) _))
  have K0 : Hid (Blk W0 w.heap.size 23 kcs) := Lib.hid (by rw [hW0]; exact (Blk.made w _ _).alloc _)
  have N0 : Hid (Blk W0 (w.heap.size + 1) 25 ncs) := Lib.hid (by
    have h := Blk.made (w.alloc (.cells kcs.toArray 23)) 25 ncs
    rw [World.size_alloc] at h
    rw [hW0]
    exact h)
  have HQ0 := Lib.hid hk
  clear hkc hnc l0 l1 hk k2 b2
  go_enter Tryd.func5, Tryd.ntmps5
  go_upto_region 1 with (first
    | refine Go.Great.wpList_boxTo rfl _ _ rfl _ rfl w.heap.size rfl (kcs.toArray) rfl ?_
    | refine Go.Great.wpList_boxTo rfl _ _ rfl _ rfl (w.heap.size + 1) (by simp) (ncs.toArray) rfl ?_)
  rw [← hW0]
  clear hW0
  go_wp2_with (first
    | (at_make
       refine wpList_make_full _ rfl _ _ _ rfl W0.heap.size 5 i0 _ 1 Tryd.underlying26 hi hz0 hz1 _ _ _ _ (4097 + m) rfl rfl ?_ ?_ ?_ ?_ (Nat.le_refl _) ?_
       · omega
       · omega
       · rw [hz2]; omega
       · unfold maxLen; omega
       intro w1 own1 g1
       have D1 : Hid (Below w.heap.size w w1) := Lib.hid (D0.out.trans (((Below.refl W0.heap.size W0).grown g1 (Nat.le_refl _) (by simp)).mono D0.out.size))
       have B1 : Below W0.heap.size W0 w1 := (Below.refl W0.heap.size W0).grown g1 (Nat.le_refl _) (by simp)
       have K1 := Lib.hid (K0.out.below B1 K0.out.lt)
       have N1 := Lib.hid (N0.out.below B1 N0.out.lt)
       rw [made_one rfl] at own1
       have B1H := Lib.hid B1
       clear g1 B1)
    | (refine wpList_load_blk rfl 23 (.tmp 3) rfl w.heap.size rfl 23 _ _ K1.out Tryd.underlying23 rfl (by rw [HKM.out]; exact HIK.out) ?_)
    | (refine wpList_load_blk rfl 25 (.tmp 4) rfl (w.heap.size + 1) rfl 25 _ _ N1.out Tryd.underlying25 rfl (by rw [HNM.out]; exact HIN.out) ?_))
  obtain ⟨N, hN⟩ : ∃ N, N = 4097 + m := ⟨_, rfl⟩
  have HN : Hid (4096 < N ∧ N ≤ 4352) := Lib.hid (by omega)
  obtain ⟨VB, hVB⟩ : ∃ B, B = W0.heap.size := ⟨_, rfl⟩
  have enl : List.replicate N (Value.int .u8 0) = (nulls N).map bv := by simp [nulls, bv]
  rw [← hN, enl, ← hVB] at own1
  have O1 : Hid (w1.ownsRow W0.heap.size 5 1 (.slice (some ⟨VB, 0, none⟩) N N) N ((nulls N).map bv)) := Lib.hid (hVB ▸ own1)
  have RB1 := Lib.hid (Rd.of_own own1)
  have HCS : Hid (∀ V v, Qs V → Rd V v (nulls N) → Calls Tryd.prog 9 #[.agg kcs.toArray, .agg ncs.toArray, .slice none 0 0, v] V fun e V' => ∃ v, e = .returned (.tuple #[v, .int .i64 3]) ∧ Rd V' v [] ∧ Below V.heap.size V V') := Lib.hid fun V v hq hr => by
    rw [← HEK.out, ← HEN.out]
    exact HSL x0 x1 _ _ [] (nulls N) V L0.out L1.out (Rd.nil V) hr (by simp) (by rw [nulls_length]; exact HN.out.1) (by rw [nulls_length]; have := HN.out; omega) hq
  have HCO : Hid (∀ V v s, Qs V → Rd V v s → s.length = N + 16 → Calls Tryd.prog 10 #[.agg kcs.toArray, .agg ncs.toArray, .slice none 0 0, v] V fun e V' => ∃ v, e = .returned (.tuple #[v, .int .i64 3]) ∧ Rd V' v [] ∧ Below V.heap.size V V') := Lib.hid fun V v s hq hr hs => by
    rw [← HEK.out, ← HEN.out]
    exact HOL x0 x1 _ _ [] s V L0.out L1.out (Rd.nil V) hr (by simp) (by have := HN.out; omega) (by have := HN.out; omega) hq
  rw [← hN, ← hVB]
  clear own1 enl hN hVB
  refine (HCS.out w1 _ (HQ0.out.below D1.out) RB1.out).mono ?_
  rintro e w2 ⟨v8, rfl, r8, hb2⟩
  obtain ⟨A8, c8, rfl, _, _, _⟩ := r8.form
  have O2 := Lib.hid (own_lain O1.out hb2)
  have RB2 := Lib.hid (RB1.out.below hb2)
  have B2 : Hid (Below W0.heap.size W0 w2) := Lib.hid (B1H.out.trans (hb2.mono B1H.out.size))
  obtain ⟨A1, c1, S1, r1⟩ := RB2.out.high (P := Tryd.prog) 26 5 i0 Tryd.underlying26 hi hz1 16 (by rw [nulls_length]; have := HN.out; omega)
  have S1' : ∀ W, (Instr.slice 26 (.slice (some ⟨VB, 0, none⟩) N N) none (some (.int .i64 16)) none).run Tryd.prog W = .ok (.slice A1 16 c1) W := S1
  have R16 := Lib.hid r1
  have hu1 := Tryd.underlying23
  have hu2 := Tryd.underlying25
  have hsi1 : (Tryd.prog.info? 23).map (·.size) = some kcs.length := by rw [HKM.out]; exact HIK.out
  have hsi2 : (Tryd.prog.info? 25).map (·.size) = some ncs.length := by rw [HNM.out]; exact HIN.out
  clear r8 hb2 S1 r1 O1 RB1 K1 N1 D1 B1H HCS
  simp only [List.length_nil]
  go_wp2_with (fail)
  have hB2 := B2.out
  refine wp_region_held_drew (S := (fun V => Below W0.heap.size W0 V)) (by kernel_rfl) hB2.drew (fun hHeld => ?_)
  refine take_put (i := 2) (oi := _) (v := ?_) 26 rfl rfl (by kernel_rfl) (by kernel_rfl) (by kernel_rfl) (fun _ _ _ h => h) (Or.inl ⟨by rfl, ?hy2⟩) (by assumption) ?_
  case hy2 => ((intro W hSw); (try dsimp only at hSw); go_simp; try (with_reducible rfl))
  simp only [List.set_cons_zero, List.set_cons_succ]
  refine take_put (i := 3) (oi := _) (v := ?_) 27 rfl rfl (by kernel_rfl) (by kernel_rfl) (by kernel_rfl) (fun _ _ _ h => h) (Or.inl ⟨by rfl, ?hy3⟩) (by assumption) ?_
  case hy3 => ((intro W hSw); (try dsimp only at hSw); go_simp; try (with_reducible rfl))
  simp only [List.set_cons_zero, List.set_cons_succ]
  refine take_put (i := 4) (oi := _) (v := ?_) 28 rfl rfl (by kernel_rfl) (by kernel_rfl) (by kernel_rfl) (fun _ _ _ h => h) (Or.inl ⟨by rfl, ?hy4⟩) (by assumption) ?_
  case hy4 => ((intro W hSw); (try dsimp only at hSw); go_simp; try (with_reducible rfl))
  simp only [List.set_cons_zero, List.set_cons_succ]
  refine take_put (i := 0) (oi := _) (v := _) 24 rfl rfl (by kernel_rfl) (by kernel_rfl) (by kernel_rfl) (fun _ _ _ h => h) (yieldsIf_load_mid (by rfl) _ _ rfl w.heap.size 0 rfl kcs _ (fun _ h => blk_range (K0.out.below h K0.out.lt)) hu1 rfl hsi1) (by assumption) ?_
  simp only [List.set_cons_zero, List.set_cons_succ]
  refine take_put (i := 1) (oi := _) (v := _) 25 rfl rfl (by kernel_rfl) (by kernel_rfl) (by kernel_rfl) (fun _ _ _ h => h) (yieldsIf_load_mid (by rfl) _ _ rfl (w.heap.size + 1) 0 rfl ncs _ (fun _ h => blk_range (N0.out.below h N0.out.lt)) hu2 rfl hsi2) (by assumption) ?_
  simp only [List.set_cons_zero, List.set_cons_succ]
  refine wpAnyH_ready (rs := [5]) (by kernel_rfl) (by simp) ?_
  refine AllReadyH.cons (o := _) rfl (fun K hK => ?_) AllReadyH.nil
  refine step_append_rd _ (by rfl) _ _ _ (by rfl) W0.heap.size 5 i0 _ Tryd.underlying26 hi hz0 hz1 hz2 rfl _ _ _ (by rfl) (own_lain O2.out (Below.refl _ _).drew) _ ((nulls N).take 16) (by rfl) (R16.out.drew) (by rw [List.length_take, nulls_length]; have := HN.out; omega) (by rw [List.length_take, nulls_length]; have := HN.out; omega) hHeld.size ?_
  intro v5 w5 own5 g5
  have hB5 : Below W0.heap.size W0 w5 := hHeld.grown g5 hHeld.size (own_ge O2.out)
  rw [← List.map_append] at own5
  have R5 := Lib.hid (Rd.of_own own5)
  refine hK.out _ _ hB5 (fun hHeld => ?_)
  clear hK K own5 g5
  try simp only [Act.put, List.setIfInBounds_toArray]
  refine wpAnyH_ready (rs := [6]) (by kernel_rfl) (by simp) ?_
  refine AllReadyH.cons (o := _) rfl (fun K hK => ?_) AllReadyH.nil
  go_simp
  refine (HCO.out w5 v5 _ (HQ0.out.below (D0.out.trans (hB5.mono D0.out.size))) R5.out (by rw [List.length_append, List.length_take, nulls_length]; have := HN.out; omega)).mono ?_
  rintro e w6 ⟨v6, rfl, r6, hb6⟩
  obtain ⟨A6, c6, rfl, _, _, _⟩ := r6.form
  have hB6 : Below W0.heap.size W0 w6 := hB5.trans (hb6.mono hB5.size)
  refine hK.out _ _ hB6 (fun hHeld => ?_)
  clear hK K
  try simp only [Act.put, List.setIfInBounds_toArray, List.set_cons_zero, List.set_cons_succ]
  refine take_put (i := 7) (oi := _) (v := ?_) 23 rfl rfl (by kernel_rfl) (by kernel_rfl) (by kernel_rfl) (fun _ _ _ h => h) (Or.inl ⟨by rfl, ?hy7⟩) (by assumption) ?_
  case hy7 => ((intro W hSw); (try dsimp only at hSw); go_simp; try (with_reducible rfl))
  simp only [List.set_cons_zero, List.set_cons_succ]
  refine take_put (i := 8) (oi := _) (v := ?_) 31 rfl rfl (by kernel_rfl) (by kernel_rfl) (by kernel_rfl) (fun _ _ _ h => h) (Or.inl ⟨by rfl, ?hy8⟩) (by assumption) ?_
  case hy8 => ((intro W hSw); (try dsimp only at hSw); go_simp; try (with_reducible rfl))
  simp only [List.set_cons_zero, List.set_cons_succ]
  refine take_put (i := 9) (oi := _) (v := ?_) 32 rfl rfl (by kernel_rfl) (by kernel_rfl) (by kernel_rfl) (fun _ _ _ h => h) (Or.inl ⟨by rfl, ?hy9⟩) (by assumption) ?_
  case hy9 => ((intro W hSw); (try dsimp only at hSw); go_simp; try (with_reducible rfl))
  simp only [List.set_cons_zero, List.set_cons_succ]
  refine take_put (i := 10) (oi := _) (v := ?_) 10 rfl rfl (by kernel_rfl) (by kernel_rfl) (by kernel_rfl) (fun _ _ _ h => h) (Or.inl ⟨by rfl, ?hy10⟩) (by assumption) ?_
  case hy10 => ((intro W hSw); (try dsimp only at hSw); go_simp; try (with_reducible rfl))
  simp only [List.set_cons_zero, List.set_cons_succ]
  refine take_put (i := 11) (oi := _) (v := ?_) 11 rfl rfl (by kernel_rfl) (by kernel_rfl) (by kernel_rfl) (fun _ _ _ h => h) (Or.inl ⟨by rfl, ?hy11⟩) (by assumption) ?_
  case hy11 => ((intro W hSw); (try dsimp only at hSw); go_simp; try (with_reducible rfl))
  simp only [List.set_cons_zero, List.set_cons_succ]
  refine wpAnyH_done (by kernel_rfl) ?_ _
  have D6 : Hid (Below w.heap.size w w6) := Lib.hid (D0.out.trans (hB6.mono D0.out.size))
  simp only [List.length_nil]
  go_wp2_with (fail)
  refine (aeadAwake_any HS w6 (HQ0.out.below D6.out)).mono ?_
  rintro e w9 ⟨rfl, hb9⟩
  go_wp2_with (fail)
  go_ret
  exact ⟨rfl, D6.out.trans (hb9.mono D6.out.size)⟩
end Go.Proofs.YtmoffodmbbkolaaDoor.aeadLong
