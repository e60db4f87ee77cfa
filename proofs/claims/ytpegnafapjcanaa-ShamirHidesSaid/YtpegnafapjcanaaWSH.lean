/- The walk of 'ShamirHides' (law 8): for any other secret there are draws by which it has the same share. Premise: the contract of shamir's Split. -/
import Derived.Test.YtpegnafapjcanaaWSHA
import Derived.Test.YtpegnafapjcanaaKept
import Derived.Deep.RegionHeld
namespace Go.Proofs.Ytpegnafapjcanaa.shamirHides
open Go.RowKit

set_option maxRecDepth 100000 in
set_option maxHeartbeats 4000000 in
theorem walkC (HS : SplitC) (a b c : List UInt8) (x' : Int) (w : World) (l0 : a.length = 32) (l1 : b.length = 32) (l2 : c.length = 32) (k3 : (Lit.int .u8 x').wf = true) :
    Calls Try.prog 6 #[.agg (a.map bv).toArray, .agg (b.map bv).toArray, .agg (c.map bv).toArray, .int .u8 x'] w fun e w' => e = .returned (.bool true) ∧ Below w.heap.size w w' := by
  have hx := bounds_u8 k3
  obtain ⟨x, rfl⟩ : ∃ m : Nat, x' = (m : Int) := ⟨x'.toNat, by omega⟩
  obtain ⟨r, hr⟩ : ∃ r, r = x % 8 := ⟨_, rfl⟩
  have rI : (r : Int) < 8 := by omega
  have e1 : (x : Int) % 8 = (r : Int) := by omega
  have HL : Hid (a.length = 32 ∧ b.length = 32 ∧ c.length = 32) := Lib.hid ⟨l0, l1, l2⟩
  have AM : Hid ((a.map bv).length = 32) := Lib.hid (by rw [List.length_map, l0])
  have BM : Hid ((b.map bv).length = 32) := Lib.hid (by rw [List.length_map, l1])
  have CM : Hid ((c.map bv).length = 32) := Lib.hid (by rw [List.length_map, l2])
  have HIK : Hid ((Try.prog.info? 23).map (·.size) = some 32) := Lib.hid (size_of info_key)
  have HI32 : Hid ((Try.prog.info? 22).bind (·.zero) = some (.agg (zeros32.map bv).toArray)) := Lib.hid (zero_of info_a32)
  obtain ⟨W0, hW0⟩ : ∃ W : World, W = ((w.alloc (.cells (a.map bv).toArray 23)).alloc (.cells (b.map bv).toArray 23)).alloc (.cells (c.map bv).toArray 23) := ⟨_, rfl⟩
  have S0 : Hid (W0.heap.size = w.heap.size + 1 + 1 + 1) := Lib.hid (by rw [hW0]; simp)
  have D0 : Hid (Below w.heap.size w W0) := Lib.hid (by rw [hW0]; exact ((((Below.refl _ _).alloc (Nat.le_refl _) _).alloc (by simp) _).alloc (by simp; omega) _))
  have PA0 : Hid (Blk W0 w.heap.size 23 (a.map bv)) := Lib.hid (by rw [hW0]; exact ((Blk.made w _ _).alloc _).alloc _)
  have PB0 : Hid (Blk W0 (w.heap.size + 1) 23 (b.map bv)) := Lib.hid (by
    have h := (Blk.made (w.alloc (.cells (a.map bv).toArray 23)) 23 (b.map bv)).alloc (.cells (c.map bv).toArray 23)
    rw [World.size_alloc] at h
    rw [hW0]
    exact h)
  have PC0 : Hid (Blk W0 (w.heap.size + 1 + 1) 23 (c.map bv)) := Lib.hid (by
    have h := Blk.made ((w.alloc (.cells (a.map bv).toArray 23)).alloc (.cells (b.map bv).toArray 23)) 23 (c.map bv)
    rw [World.size_alloc, World.size_alloc] at h
    rw [hW0]
    exact h)
  have e2 : IntKind.i64.wrap ((r : Int) + 1) = (r : Int) + 1 := IntWalk.i64_in _ (by omega)
  have e3 : IntKind.u8.wrap ((r : Int) + 1) = (r : Int) + 1 := by
    unfold IntKind.wrap
    simp [IntKind.bits, IntKind.signed]
    omega
  clear l0 l1 l2 k3 hx hr
  go_enter Try.func6, Try.ntmps6
  go_upto_region 1 with (first
    | refine Go.Great.wpList_boxTo rfl _ _ rfl _ rfl w.heap.size rfl ((a.map bv).toArray) rfl ?_
    | refine Go.Great.wpList_boxTo rfl _ _ rfl _ rfl (w.heap.size + 1) (by simp) ((b.map bv).toArray) rfl ?_
    | refine Go.Great.wpList_boxTo rfl _ _ rfl _ rfl (w.heap.size + 1 + 1) (by simp) ((c.map bv).toArray) rfl ?_)
  rw [← hW0]
  clear hW0
  go_upto_region 3 with (fail)
  obtain ⟨N, hN⟩ : ∃ N, N = max (r + 1) 2 := ⟨_, rfl⟩
  have NI : (N : Int) ≤ 8 := by omega
  have HN : Hid (2 ≤ N ∧ N ≤ 8 ∧ r + 1 ≤ N) := Lib.hid (by omega)
  have hmax : max ((r : Int) + 1) 2 = (N : Int) := by omega
  have HS1 : Hid (∀ W, Below W0.heap.size W0 W → Calls Try.prog 9 #[.agg (a.map bv).toArray, .int .i64 (N : Int), .int .i64 2, .slice (some ⟨w.heap.size + 1 + 1, 0, none⟩) 32 32] W fun e W' => ∃ s, e = .returned (.tuple #[s, .int .i64 0]) ∧ Rf 33 W' s (splitB a N 2 c) ∧ Below W.heap.size W W') := Lib.hid fun W hW => by
    have hb := PC0.out.below hW PC0.out.lt
    have h := hb.rd 32 32 (by have := HL.out.2.2; omega) (Nat.le_refl _) (by unfold maxLen; omega)
    rw [List.take_of_length_le (by have := HL.out.2.2; omega)] at h
    exact HS a N 2 _ c W HL.out.1 (by omega) HN.out.1 (by have := HN.out.2.1; omega) h (by rw [HL.out.2.2]; omega)
  clear hN
  refine wp_region_held_drew (S := (fun W => Below W0.heap.size W0 W)) (by kernel_rfl) ?_ (fun hHeld => ?_)
  · (first | (exact hHeld.trans (hb1.mono hHeld.size)) | (exact (Below.refl _ _).drew))
  refine take_put (i := 0) (oi := _) (v := _) 25 rfl rfl (by kernel_rfl) (by kernel_rfl) (by kernel_rfl) (fun _ _ _ h => h) (yieldsIf_load_mid (by rfl) _ _ rfl w.heap.size 0 rfl (a.map bv) _ (fun W hW => (PA0.out.below hW PA0.out.lt).range 0) Try.underlying23 rfl (by rw [AM.out]; exact HIK.out)) (by assumption) ?_
  simp only [List.set_cons_zero, List.set_cons_succ]
  refine take_put (i := 1) (oi := _) (v := ?_) 26 rfl rfl (by kernel_rfl) (by kernel_rfl) (by kernel_rfl) (fun _ _ _ h => h) (Or.inl ⟨by rfl, ?hy1⟩) (by assumption) ?_
  case hy1 => ((intro W hSw); (try dsimp only at hSw); go_simp; try (with_reducible rfl))
  simp only [List.set_cons_zero, List.set_cons_succ]
  refine take_put (i := 2) (oi := _) (v := ?_) 27 rfl rfl (by kernel_rfl) (by kernel_rfl) (by kernel_rfl) (fun _ _ _ h => h) (Or.inl ⟨by rfl, ?hy2⟩) (by assumption) ?_
  case hy2 => ((intro W hSw); (try dsimp only at hSw); go_simp; try (with_reducible rfl))
  simp only [List.set_cons_zero, List.set_cons_succ]
  refine take_put (i := 3) (oi := _) (v := ?_) 28 rfl rfl (by kernel_rfl) (by kernel_rfl) (by kernel_rfl) (fun _ _ _ h => h) (Or.inl ⟨by rfl, ?hy3⟩) (by assumption) ?_
  case hy3 => ((intro W hSw); (try dsimp only at hSw); go_simp; try (with_reducible rfl))
  simp only [List.set_cons_zero, List.set_cons_succ]
  refine wpAnyH_ready (rs := [4]) (by kernel_rfl) (by simp) ?_
  refine AllReadyH.cons (o := _) rfl (fun K hK => ?_) AllReadyH.nil
  go_simp
  refine (HS1.out _ (by assumption)).mono ?_
  rintro e V1 ⟨s1, rfl, hr1, hb1⟩
  refine hK.out _ _ ?_ (fun hHeld => ?_)
  · (first | (exact hHeld.trans (hb1.mono hHeld.size)) | (exact (Below.refl _ _).drew))
  clear hK K
  try simp only [Act.put, List.setIfInBounds_toArray, List.set_cons_zero, List.set_cons_succ]
  refine take_put (i := 5) (oi := _) (v := ?_) 24 rfl rfl (by kernel_rfl) (by kernel_rfl) (by kernel_rfl) (fun _ _ _ h => h) (Or.inl ⟨by rfl, ?hy5⟩) (by assumption) ?_
  case hy5 => ((intro W hSw); (try dsimp only at hSw); go_simp; try (with_reducible rfl))
  simp only [List.set_cons_zero, List.set_cons_succ]
  refine take_put (i := 6) (oi := _) (v := ?_) 30 rfl rfl (by kernel_rfl) (by kernel_rfl) (by kernel_rfl) (fun _ _ _ h => h) (Or.inl ⟨by rfl, ?hy6⟩) (by assumption) ?_
  case hy6 => ((intro W hSw); (try dsimp only at hSw); go_simp; try (with_reducible rfl))
  simp only [List.set_cons_zero, List.set_cons_succ]
  refine take_put (i := 7) (oi := _) (v := ?_) 31 rfl rfl (by kernel_rfl) (by kernel_rfl) (by kernel_rfl) (fun _ _ _ h => h) (Or.inl ⟨by rfl, ?hy7⟩) (by assumption) ?_
  case hy7 => ((intro W hSw); (try dsimp only at hSw); go_simp; try (with_reducible rfl))
  simp only [List.set_cons_zero, List.set_cons_succ]
  refine take_put (i := 8) (oi := _) (v := ?_) 11 rfl rfl (by kernel_rfl) (by kernel_rfl) (by kernel_rfl) (fun _ _ _ h => h) (Or.inl ⟨by rfl, ?hy8⟩) (by assumption) ?_
  case hy8 => ((intro W hSw); (try dsimp only at hSw); go_simp; try (with_reducible rfl))
  simp only [List.set_cons_zero, List.set_cons_succ]
  refine take_put (i := 9) (oi := _) (v := ?_) 12 rfl rfl (by kernel_rfl) (by kernel_rfl) (by kernel_rfl) (fun _ _ _ h => h) (Or.inl ⟨by rfl, ?hy9⟩) (by assumption) ?_
  case hy9 => ((intro W hSw); (try dsimp only at hSw); go_simp; try (with_reducible rfl))
  simp only [List.set_cons_zero, List.set_cons_succ]
  refine wpAnyH_done (by kernel_rfl) ?_ _
  have D1 : Hid (Below W0.heap.size W0 V1) := Lib.hid hHeld
  have R1 := Lib.hid hr1
  obtain ⟨x8, hx8⟩ : ∃ x8, x8 = UInt8.ofNat (r + 1) := ⟨_, rfl⟩
  have e4 : ((r : Int) + 1) = (x8.toNat : Int) := by
    rw [hx8, UInt8.toNat_ofNat']
    omega
  have HX0 : Hid (x8 ≠ 0) := Lib.hid fun h => by
    rw [h] at e4
    rw [show ((0 : UInt8).toNat) = 0 from rfl] at e4
    omega
  have G1 : Hid (∀ W, Calls Try.prog 17 #[.int .u8 ((r : Int) + 1)] W fun e w' => e = .returned (.int .u8 ((gi x8).toNat : Int)) ∧ w' = W) := Lib.hid fun W => by
    rw [e4]
    exact refGi x8 W
  have HX8 := Lib.hid hx8
  clear e4 hx8 hHeld hr1 hb1 HS1
  obtain ⟨W2, hW2⟩ : ∃ W : World, W = V1.alloc (.cells (zeros32.map bv).toArray 22) := ⟨_, rfl⟩
  have O2 : Hid (Blk W2 V1.heap.size 22 (zeros32.map bv)) := Lib.hid (by rw [hW2]; exact Blk.made V1 _ _)
  have E2 : Hid (Below V1.heap.size V1 W2) := Lib.hid (by rw [hW2]; exact (Below.refl _ _).alloc (Nat.le_refl _) _)
  have D2 : Hid (Below W0.heap.size W0 W2) := Lib.hid (D1.out.trans (E2.out.mono D1.out.size))
  have LS : Hid (w.heap.size + 1 + 1 < V1.heap.size) := Lib.hid (by have h1 := S0.out; have h2 := D1.out.size; omega)
  go_upto_region 5 with (refine wpList_alloc_z rfl 22 rfl _ HI32.out V1.heap.size rfl ?_)
  rw [← hW2]
  clear hW2
  go_wp2_with (fail)
  refine (G1.out _).mono ?_
  rintro e w1 ⟨rfl, rfl⟩
  go_wp2_with (fail)
  refine hid_loop _ _ _ _ _ _ _ _ _ _ _ _ _ _ _ _ _ _ _ _ _ _ _ _ _ _ _ _ _ _ _ _ _ _ _ _ _ _ _ _ _ _ _ _ _ _ _ _ _ _ _ _ _ _ _ _ _ _ _ _ _ _ _ _ _ _ _ _ _ _ _ _ _ _ _ _ _ _ _ _ _ _ _ _ _ _ _ _ _ a b c x8 w.heap.size (w.heap.size + 1) (w.heap.size + 1 + 1) V1.heap.size w1 HL (Lib.hid ⟨by have := LS.out; omega, by have := LS.out; omega, by have := LS.out; omega⟩) (Lib.hid (PA0.out.below D2.out PA0.out.lt)) (Lib.hid (PB0.out.below D2.out PB0.out.lt)) (Lib.hid (PC0.out.below D2.out PC0.out.lt)) O2 (Lib.hid ?_)
  intro u15 u34 u35 u36 u37 u38 u39 u40 u41 u42 u43 u44 u45 u46 u47 u48 u49 u50 u51 u52 W3 O3 SO3
  obtain ⟨ot, hot⟩ : ∃ ot, ot = otherB a b c x8 := ⟨_, rfl⟩
  rw [← hot] at O3
  have HOL : Hid (ot.length = 32) := Lib.hid (by rw [hot, otherB_length])
  have HEQ : Hid (shareB a x8 2 c = shareB b x8 2 ot) := Lib.hid (shareB_hides a b c ot HX0.out fun k hk => by rw [hot]; exact otherB_get a b c x8 hk)
  have D3 : Hid (Below W0.heap.size W0 W3) := Lib.hid (D2.out.trans (SO3.out.below.mono D1.out.size))
  have R3 : Hid (Rf 33 W3 s1 (splitB a N 2 c)) := Lib.hid (R1.out.below (E2.out.trans SO3.out.below))
  have B3 : Hid (Blk W3 (w.heap.size + 1) 23 (b.map bv)) := Lib.hid (PB0.out.below D3.out PB0.out.lt)
  clear hot O2 E2 D2 R1 SO3 D1
  have HS2 : Hid (∀ W, Below W3.heap.size W3 W → Calls Try.prog 9 #[.agg (b.map bv).toArray, .int .i64 (N : Int), .int .i64 2, .slice (some ⟨V1.heap.size, 0, none⟩) 32 32] W fun e W' => ∃ s, e = .returned (.tuple #[s, .int .i64 0]) ∧ Rf 33 W' s (splitB b N 2 ot) ∧ Below W.heap.size W W') := Lib.hid fun W hW => by
    have hb := O3.out.below hW O3.out.lt
    have h := hb.rd 32 32 (by have := HOL.out; omega) (Nat.le_refl _) (by unfold maxLen; omega)
    rw [List.take_of_length_le (by have := HOL.out; omega)] at h
    exact HS b N 2 _ ot W HL.out.2.1 (by omega) HN.out.1 (by have := HN.out.2.1; omega) h (by rw [HOL.out]; omega)
  go_wp2_with (fail)
  refine wp_region_held_drew (S := (fun W => Below W3.heap.size W3 W)) (by kernel_rfl) ?_ (fun hHeld => ?_)
  · (first | (exact hHeld.trans (hb2.mono hHeld.size)) | (exact (Below.refl _ _).drew))
  refine take_put (i := 0) (oi := _) (v := _) 54 rfl rfl (by kernel_rfl) (by kernel_rfl) (by kernel_rfl) (fun _ _ _ h => h) (yieldsIf_load_mid (by rfl) _ _ rfl (w.heap.size + 1) 0 rfl (b.map bv) _ (fun W hW => (B3.out.below hW B3.out.lt).range 0) Try.underlying23 rfl (by rw [BM.out]; exact HIK.out)) (by assumption) ?_
  simp only [List.set_cons_zero, List.set_cons_succ]
  refine take_put (i := 1) (oi := _) (v := ?_) 55 rfl rfl (by kernel_rfl) (by kernel_rfl) (by kernel_rfl) (fun _ _ _ h => h) (Or.inl ⟨by rfl, ?hy1⟩) (by assumption) ?_
  case hy1 => ((intro W hSw); (try dsimp only at hSw); go_simp; try (with_reducible rfl))
  simp only [List.set_cons_zero, List.set_cons_succ]
  refine take_put (i := 2) (oi := _) (v := ?_) 56 rfl rfl (by kernel_rfl) (by kernel_rfl) (by kernel_rfl) (fun _ _ _ h => h) (Or.inl ⟨by rfl, ?hy2⟩) (by assumption) ?_
  case hy2 => ((intro W hSw); (try dsimp only at hSw); go_simp; try (with_reducible rfl))
  simp only [List.set_cons_zero, List.set_cons_succ]
  refine take_put (i := 3) (oi := _) (v := ?_) 57 rfl rfl (by kernel_rfl) (by kernel_rfl) (by kernel_rfl) (fun _ _ _ h => h) (Or.inl ⟨by rfl, ?hy3⟩) (by assumption) ?_
  case hy3 => ((intro W hSw); (try dsimp only at hSw); go_simp; try (with_reducible rfl))
  simp only [List.set_cons_zero, List.set_cons_succ]
  refine wpAnyH_ready (rs := [4]) (by kernel_rfl) (by simp) ?_
  refine AllReadyH.cons (o := _) rfl (fun K hK => ?_) AllReadyH.nil
  go_simp
  refine (HS2.out _ (by assumption)).mono ?_
  rintro e V2 ⟨s2, rfl, hr2, hb2⟩
  refine hK.out _ _ ?_ (fun hHeld => ?_)
  · (first | (exact hHeld.trans (hb2.mono hHeld.size)) | (exact (Below.refl _ _).drew))
  clear hK K
  try simp only [Act.put, List.setIfInBounds_toArray, List.set_cons_zero, List.set_cons_succ]
  refine take_put (i := 5) (oi := _) (v := ?_) 53 rfl rfl (by kernel_rfl) (by kernel_rfl) (by kernel_rfl) (fun _ _ _ h => h) (Or.inl ⟨by rfl, ?hy5⟩) (by assumption) ?_
  case hy5 => ((intro W hSw); (try dsimp only at hSw); go_simp; try (with_reducible rfl))
  simp only [List.set_cons_zero, List.set_cons_succ]
  refine take_put (i := 6) (oi := _) (v := ?_) 59 rfl rfl (by kernel_rfl) (by kernel_rfl) (by kernel_rfl) (fun _ _ _ h => h) (Or.inl ⟨by rfl, ?hy6⟩) (by assumption) ?_
  case hy6 => ((intro W hSw); (try dsimp only at hSw); go_simp; try (with_reducible rfl))
  simp only [List.set_cons_zero, List.set_cons_succ]
  refine take_put (i := 7) (oi := _) (v := ?_) 60 rfl rfl (by kernel_rfl) (by kernel_rfl) (by kernel_rfl) (fun _ _ _ h => h) (Or.inl ⟨by rfl, ?hy7⟩) (by assumption) ?_
  case hy7 => ((intro W hSw); (try dsimp only at hSw); go_simp; try (with_reducible rfl))
  simp only [List.set_cons_zero, List.set_cons_succ]
  refine take_put (i := 8) (oi := _) (v := ?_) 16 rfl rfl (by kernel_rfl) (by kernel_rfl) (by kernel_rfl) (fun _ _ _ h => h) (Or.inl ⟨by rfl, ?hy8⟩) (by assumption) ?_
  case hy8 => ((intro W hSw); (try dsimp only at hSw); go_simp; try (with_reducible rfl))
  simp only [List.set_cons_zero, List.set_cons_succ]
  refine take_put (i := 9) (oi := _) (v := ?_) 17 rfl rfl (by kernel_rfl) (by kernel_rfl) (by kernel_rfl) (fun _ _ _ h => h) (Or.inl ⟨by rfl, ?hy9⟩) (by assumption) ?_
  case hy9 => ((intro W hSw); (try dsimp only at hSw); go_simp; try (with_reducible rfl))
  simp only [List.set_cons_zero, List.set_cons_succ]
  refine wpAnyH_done (by kernel_rfl) ?_ _
  have D4 : Hid (Below W3.heap.size W3 V2) := Lib.hid hHeld
  have R4 : Hid (Rf 33 V2 s1 (splitB a N 2 c)) := Lib.hid (R3.out.below D4.out)
  obtain ⟨A1, c1, rfl, _, _, hA1⟩ := R4.out.form
  obtain ⟨A2, c2, rfl, _, _, hA2⟩ := hr2.form
  obtain ⟨b1, o1, rfl, _, q1⟩ := hA1 (by rw [splitB_length]; have := HN.out.1; omega)
  obtain ⟨b2, o2, rfl, _, q2⟩ := hA2 (by rw [splitB_length]; have := HN.out.1; omega)
  obtain ⟨xs, hxs⟩ : ∃ xs, xs = shareB a x8 2 c := ⟨_, rfl⟩
  have X1 : Hid (∀ W, (∃ n, W = V2.drewN n) → W.rangeAt b1 (o1 + r * 33) (xs.map bv)) := Lib.hid (range_drewN (by
    have h := el_range R4.out.1 q1 (i := r) (by rw [splitB_length]; have := HN.out.2.2; omega)
    rw [splitB_get a N 2 c (by have := HN.out.2.2; omega), ← HX8.out, ← hxs] at h
    exact h))
  have X2 : Hid (∀ W, (∃ n, W = V2.drewN n) → W.rangeAt b2 (o2 + r * 33) (xs.map bv)) := Lib.hid (range_drewN (by
    have h := el_range hr2.1 q2 (i := r) (by rw [splitB_length]; have := HN.out.2.2; omega)
    rw [splitB_get b N 2 ot (by have := HN.out.2.2; omega), ← HX8.out, ← HEQ.out, ← hxs] at h
    exact h))
  have XM : Hid ((xs.map bv).length = 33) := Lib.hid (by rw [List.length_map, hxs, shareB_length])
  have HIS : Hid ((Try.prog.info? 31).map (·.size) = some 33) := Lib.hid (size_of info_share)
  have hq : ∀ W, (Op.equalIn 10000 31 (.agg (xs.map bv).toArray) (.agg (xs.map bv).toArray)).run Try.prog W = .ok true W := fun W => by
    have h := run_equalIn_share xs xs (by simpa using XM.out) (by simpa using XM.out) W
    rw [decide_eq_true rfl] at h
    exact h
  have DW : Hid (Below w.heap.size w V2) := Lib.hid ((D0.out.trans (D3.out.mono D0.out.size)).trans (D4.out.mono (Nat.le_trans D0.out.size D3.out.size)))
  rw [splitB_length, splitB_length]
  have g1 : (r : Int) + 1 ≤ N := by have := HN.out.2.2; omega
  have g2 : IntKind.i64.wrap ((r : Int) + 1 - 1) = (r : Int) := by rw [show (r : Int) + 1 - 1 = r by omega]; exact IntWalk.i64_in _ (by omega)
  have g3 : (r : Int) < N := by omega
  clear hxs hHeld hr2 hb2 hA1 hA2 q1 q2 R3 R4 D3 D4 B3 O3 HS2 hmax e2 e3 HEQ
  go_wp2_with (fail)
  refine wp_quiet_tail 32 (by kernel_rfl) (by kernel_rfl) (by kernel_rfl) (by kernel_rfl) (by kernel_rfl) (by kernel_rfl) (by kernel_rfl) (by kernel_rfl) ?_
  simp only [List.take_succ_cons, List.take_zero, List.drop_succ_cons, List.drop_zero]
  repeat (go_big_quiet_step (fail))
  refine wpQuiet_load_mid rfl 84 rfl 31 (.tmp 83) rfl b1 (o1 + r * 33) rfl (xs.map bv) _ X1.out Try.underlying31 rfl (by rw [XM.out]; exact HIS.out) ?_
  simp only [List.set_cons_zero, List.set_cons_succ]
  repeat (go_big_quiet_step (fail))
  refine wpQuiet_load_mid rfl 89 rfl 31 (.tmp 88) rfl b2 (o2 + r * 33) rfl (xs.map bv) _ X2.out Try.underlying31 rfl (by rw [XM.out]; exact HIS.out) ?_
  simp only [List.set_cons_zero, List.set_cons_succ]
  repeat (go_big_quiet_step (fail))
  refine wpQuiet_nil ?_
  intro wq hwq
  obtain ⟨nq, rfl⟩ := hwq
  go_wp2_with (fail)
  refine (shamAwake_any HS _).mono ?_
  rintro e w3 ⟨rfl, hb3⟩
  go_wp2_with (fail)
  go_ret
  exact ⟨rfl, (below_drewN DW.out nq).trans (hb3.mono DW.out.size)⟩
end Go.Proofs.Ytpegnafapjcanaa.shamirHides
