/- The walk of 'ShamirCombines' (law 8): any shares are put together, or refreshed, as the document says, or are refused. Premises: the contracts of shamir's Split (for the example), Combine and Refresh. -/
import Derived.Test.YtpegnafapjcanaaWSCA
import Derived.Test.YtpegnafapjcanaaSRefP
import Derived.Test.YtpegnafapjcanaaSRefS
import Derived.Test.YtpegnafapjcanaaKept
import Derived.Deep.RegionHeld
namespace Go.Proofs.Ytpegnafapjcanaa.shamirCombines
open Go.RowKit

theorem built_key0 : Try.prog.built 23 [] = some (zeros32.map bv).toArray := by kernel_rfl
theorem places_nil {L : List (List UInt8)} (h : L.length = 0) : placesB L = 0 :=
  places_zero (fun ⟨i, hi, _⟩ => by omega) (fun ⟨q, i, _, hi, _⟩ => by omega)
set_option maxRecDepth 100000 in
set_option maxHeartbeats 8000000 in
theorem walkC (HS : SplitC) (HC : CombC) (HE : CombE) (RC : RefrC) (RE : RefrE) (v0 : Value) (L : List (List UInt8)) (a1 : Int) (v2 : Value) (draws : List UInt8) (w : World) (k0 : Rf 33 w v0 L) (k1 : (Lit.int .i64 a1).wf = true) (k2 : Rd w v2 draws) :
    Calls Try.prog 4 #[v0, .int .i64 a1, v2] w fun e w' => e = .returned (.bool true) ∧ Below w.heap.size w w' := by
  obtain ⟨Al, cl, rfl, hl1, hl2, _⟩ := k0.form
  obtain ⟨Ad, cd, rfl, _, hcd, _⟩ := k2.form
  unfold maxLen at hl2 hcd
  have HLF := Lib.hid k0
  have HR := Lib.hid k2
  have HK1 := Lib.hid k1
  have HIK : Hid ((Try.prog.info? 23).map (·.size) = some 32) := Lib.hid (size_of info_key)
  have HZ : Hid ((Try.prog.info? 23).bind (·.zero) = some (.agg (zeros32.map bv).toArray)) := Lib.hid (zero_of info_key)
  have HZL : Hid ((zeros32.map bv).length = 32) := Lib.hid (by simp [zeros32])
  have hll : (L.length : Int) ≤ 9223372036854775807 := by omega
  clear k0 k1 k2 hl1 hl2
  by_cases h1 : (8 : Int) < (L.length : Int)
  · clear HLF HR
    go_enter Try.func4, Try.ntmps4
    go_wp2_with (fail)
    refine (shamAwake_any HS _).mono ?_
    rintro e w3 ⟨rfl, hb3⟩
    go_wp2_with (fail)
    go_ret
    exact ⟨rfl, hb3⟩
  have g1 : decide ((8 : Int) < (L.length : Int)) = false := decide_eq_false h1
  by_cases h2 : 12 < a1
  · clear HLF HR
    go_enter Try.func4, Try.ntmps4
    go_wp2_with (fail)
    refine (shamAwake_any HS _).mono ?_
    rintro e w3 ⟨rfl, hb3⟩
    go_wp2_with (fail)
    go_ret
    exact ⟨rfl, hb3⟩
  have g2 : decide (12 < a1) = false := decide_eq_false h2
  by_cases h3 : (300 : Int) < (draws.length : Int)
  · clear HLF HR
    go_enter Try.func4, Try.ntmps4
    go_wp2_with (fail)
    refine (shamAwake_any HS _).mono ?_
    rintro e w3 ⟨rfl, hb3⟩
    go_wp2_with (fail)
    go_ret
    exact ⟨rfl, hb3⟩
  have g3 : decide ((300 : Int) < (draws.length : Int)) = false := decide_eq_false h3
  have H8 : Hid (L.length ≤ 8) := Lib.hid (by omega)
  have HA12 : Hid (a1 ≤ 12) := Lib.hid (by omega)
  have HDL : Hid (draws.length ≤ 300) := Lib.hid (by omega)
  obtain ⟨p, hp⟩ : ∃ p, p = placesB L := ⟨_, rfl⟩
  have HP : Hid (placesB L = p) := Lib.hid hp.symm
  have hp7 : p ≤ 7 := by rcases placesB_cases L with h | h | h <;> omega
  have pI : (p : Int) ≤ 7 := by omega
  clear h1 h2 h3 hp7
  by_cases h4 : a1 < 1
  · have HTL := Lib.hid h4
    by_cases h5 : L.length = 0
    · have g5 : (L.length : Int) = 0 := by omega
      have HL0 := Lib.hid h5
      have p0 : p = 0 := by rw [hp]; exact places_nil h5
      subst p0
      clear h5 hp
      go_enter Try.func4, Try.ntmps4
      go_wp2_with (fail)
      refine (HE _ L w 6 HLF.out H8.out (.inl ⟨List.eq_nil_of_length_eq_zero HL0.out, rfl⟩)).mono ?_
      rintro e w1 ⟨rfl, hb1⟩
      have D1 := Lib.hid hb1
      obtain ⟨ks, hks⟩ : ∃ ks, ks = zeros32 := ⟨_, rfl⟩
      have KL : Hid (ks.length = 32) := Lib.hid (by rw [hks]; simp [zeros32])
      have KM : Hid ((ks.map bv).length = 32) := Lib.hid (by rw [List.length_map]; exact KL.out)
      have HKS := Lib.hid hks
      rw [← hks]
      clear hb1 hks
      unfold arrV
      obtain ⟨W2, hW2⟩ : ∃ W : World, W = w1.alloc (.cells (zeros32.map bv).toArray 23) := ⟨_, rfl⟩
      have K2 : Hid (Blk W2 w1.heap.size 23 (zeros32.map bv)) := Lib.hid (by rw [hW2]; exact Blk.made _ _ _)
      have L2 : Hid (Below w1.heap.size w1 W2) := Lib.hid (by rw [hW2]; exact (Below.refl _ _).alloc (Nat.le_refl _) _)
      go_upto_region 4 with (first
        | (refine wpList_alloc_z rfl 23 rfl _ HZ.out w1.heap.size rfl ?_
           rw [← hW2])
        | (refine wpList_store_blk rfl 23 _ _ rfl w1.heap.size 23 _ K2.out (ks.map bv) rfl rfl (by rw [KM.out, HZL.out]) (by rw [KM.out]; exact HIK.out) (bv_one _) ?_
           intro w3 hb3 hs3
           have K3 := Lib.hid hb3
           have S3 := Lib.hid hs3
           clear hb3 hs3))
      have D3 : Hid (Below w.heap.size w w3) := Lib.hid (D1.out.trans ((L2.out.trans S3.out.below).mono D1.out.size))
      clear hW2 K2 L2 S3 D1
      go_wp2_with (fail)
      refine (RE _ L a1 _ draws w3 1 (HLF.out.below D3.out) H8.out HK1.out HA12.out (HR.out.below D3.out) (by have := HDL.out; omega) (.inl ⟨HTL.out, rfl⟩)).mono ?_
      rintro e w4 ⟨s, rfl, hs, hb4⟩
      obtain ⟨As, cs, rfl, _, _, _⟩ := hs.form
      have D4 : Hid (Below w.heap.size w w4) := Lib.hid (D3.out.trans (hb4.mono D3.out.size))
      have K4 := Lib.hid (K3.out.below hb4 K3.out.lt)
      have RS := Lib.hid hs
      clear hs hb4 D3 K3
      simp only [List.length_nil] at RS ⊢
      go_wp2_with (fail)
      refine (refPlaces_any _ L w4 (HLF.out.below D4.out) (by have := H8.out; omega)).mono ?_
      rintro e w5' ⟨rfl, m5, rfl⟩
      obtain ⟨w5, hw5⟩ : ∃ W : World, W = w4.drewN m5 := ⟨_, rfl⟩
      have D5 : Hid (Below w.heap.size w w5) := Lib.hid (by rw [hw5]; exact below_drewN D4.out m5)
      have K5 : Hid (Blk w5 w1.heap.size 23 (ks.map bv)) := Lib.hid (by rw [hw5]; exact K4.out.drewN m5)
      have R5 : Hid (Rf 33 w5 _ _) := Lib.hid (by rw [hw5]; exact RS.out.drewN m5)
      rw [← hw5, HP.out]
      clear hw5 D4 K4 RS
      clear R5
      have hq : ∀ W, (Op.equalIn 10000 23 (.agg (ks.map bv).toArray) (.agg (ks.map bv).toArray)).run Try.prog W = .ok true W := fun W => by
        have h := run_equalIn_key 9998 ks ks KL.out KL.out W
        rw [decide_eq_true rfl] at h
        exact h
      have HB0 : Hid (Try.prog.built 23 [] = some (ks.map bv).toArray) := Lib.hid (by rw [HKS.out]; exact built_key0)
      go_wp2_with (first
        | refine wpList_build_is rfl 23 _ rfl _ rfl _ HB0.out ?_
        | refine wpList_load_blk rfl 23 (.tmp 7) rfl w1.heap.size rfl 23 (ks.map bv) _ K5.out Try.underlying23 rfl (by rw [KM.out]; exact HIK.out) ?_)
      refine (shamAwake_any HS _).mono ?_
      rintro e w9 ⟨rfl, hb9⟩
      go_wp2_with (fail)
      go_ret
      exact ⟨rfl, D5.out.trans (hb9.mono D5.out.size)⟩
    have g5 : (L.length : Int) ≠ 0 := by omega
    have g5' : ((L.length : Int) == 0) = false := by rw [beq_eq_false_iff_ne]; exact g5
    have g5'' : (L.length == 0) = false := by rw [beq_eq_false_iff_ne]; exact h5
    have H0 : Hid (0 < L.length) := Lib.hid (by omega)
    by_cases h6 : p = 0
    · subst h6
      have HPZ := HP
      clear h5 hp
      go_enter Try.func4, Try.ntmps4
      go_wp2_with (fail)
      refine (HC _ L w HLF.out H0.out H8.out HPZ.out).mono ?_
      rintro e w1 ⟨rfl, hb1⟩
      have D1 := Lib.hid hb1
      obtain ⟨ks, hks⟩ : ∃ ks, ks = combB L := ⟨_, rfl⟩
      have KL : Hid (ks.length = 32) := Lib.hid (by rw [hks]; exact combB_length L)
      have KM : Hid ((ks.map bv).length = 32) := Lib.hid (by rw [List.length_map]; exact KL.out)
      have HKS := Lib.hid hks
      rw [← hks]
      clear hb1 hks
      unfold arrV
      obtain ⟨W2, hW2⟩ : ∃ W : World, W = w1.alloc (.cells (zeros32.map bv).toArray 23) := ⟨_, rfl⟩
      have K2 : Hid (Blk W2 w1.heap.size 23 (zeros32.map bv)) := Lib.hid (by rw [hW2]; exact Blk.made _ _ _)
      have L2 : Hid (Below w1.heap.size w1 W2) := Lib.hid (by rw [hW2]; exact (Below.refl _ _).alloc (Nat.le_refl _) _)
      go_upto_region 4 with (first
        | (refine wpList_alloc_z rfl 23 rfl _ HZ.out w1.heap.size rfl ?_
           rw [← hW2])
        | (refine wpList_store_blk rfl 23 _ _ rfl w1.heap.size 23 _ K2.out (ks.map bv) rfl rfl (by rw [KM.out, HZL.out]) (by rw [KM.out]; exact HIK.out) (bv_one _) ?_
           intro w3 hb3 hs3
           have K3 := Lib.hid hb3
           have S3 := Lib.hid hs3
           clear hb3 hs3))
      have D3 : Hid (Below w.heap.size w w3) := Lib.hid (D1.out.trans ((L2.out.trans S3.out.below).mono D1.out.size))
      clear hW2 K2 L2 S3 D1
      go_wp2_with (fail)
      refine (RE _ L a1 _ draws w3 1 (HLF.out.below D3.out) H8.out HK1.out HA12.out (HR.out.below D3.out) (by have := HDL.out; omega) (.inl ⟨HTL.out, rfl⟩)).mono ?_
      rintro e w4 ⟨s, rfl, hs, hb4⟩
      obtain ⟨As, cs, rfl, _, _, _⟩ := hs.form
      have D4 : Hid (Below w.heap.size w w4) := Lib.hid (D3.out.trans (hb4.mono D3.out.size))
      have K4 := Lib.hid (K3.out.below hb4 K3.out.lt)
      have RS := Lib.hid hs
      clear hs hb4 D3 K3
      simp only [List.length_nil] at RS ⊢
      go_wp2_with (fail)
      refine (refPlaces_any _ L w4 (HLF.out.below D4.out) (by have := H8.out; omega)).mono ?_
      rintro e w5' ⟨rfl, m5, rfl⟩
      obtain ⟨w5, hw5⟩ : ∃ W : World, W = w4.drewN m5 := ⟨_, rfl⟩
      have D5 : Hid (Below w.heap.size w w5) := Lib.hid (by rw [hw5]; exact below_drewN D4.out m5)
      have K5 : Hid (Blk w5 w1.heap.size 23 (ks.map bv)) := Lib.hid (by rw [hw5]; exact K4.out.drewN m5)
      have R5 : Hid (Rf 33 w5 _ _) := Lib.hid (by rw [hw5]; exact RS.out.drewN m5)
      rw [← hw5, HP.out]
      clear hw5 D4 K4 RS
      clear R5
      have hq : ∀ W, (Op.equalIn 10000 23 (.agg (ks.map bv).toArray) (.agg (ks.map bv).toArray)).run Try.prog W = .ok true W := fun W => by
        have h := run_equalIn_key 9998 ks ks KL.out KL.out W
        rw [decide_eq_true rfl] at h
        exact h
      have HCB : Hid (∀ W, Below w5.heap.size w5 W → Calls Try.prog 15 #[.slice Al L.length cl] W fun e W' => e = .returned (.agg (ks.map bv).toArray) ∧ Below W.heap.size W W') := Lib.hid fun W hW => by
        rw [HKS.out]
        exact refComb_any _ L W (HLF.out.below (D5.out.trans (hW.mono D5.out.size))) (by have := H8.out; omega) H0.out
      go_wp2_with (fail)
      refine wp_region_held_drew (S := (fun W => Below w5.heap.size w5 W)) (by kernel_rfl) ?_ (fun hHeld => ?_)
      · (first | (exact hHeld.trans (hb9.mono hHeld.size)) | (exact hHeld.trans (hb8.mono hHeld.size)) | (exact (Below.refl _ _).drew))
      refine take_put (i := 0) (oi := _) (v := ?_) 134 rfl rfl (by kernel_rfl) (by kernel_rfl) (by kernel_rfl) (fun _ _ _ h => h) (Or.inl ⟨by rfl, ?hy0⟩) (by assumption) ?_
      case hy0 => ((intro W hSw); (try dsimp only at hSw); go_simp; try (with_reducible rfl))
      simp only [List.set_cons_zero, List.set_cons_succ]
      refine take_put (i := 1) (oi := _) (v := ?_) 135 rfl rfl (by kernel_rfl) (by kernel_rfl) (by kernel_rfl) (fun _ _ _ h => h) (Or.inl ⟨by rfl, ?hy1⟩) (by assumption) ?_
      case hy1 => ((intro W hSw); (try dsimp only at hSw); go_simp; try (with_reducible rfl))
      simp only [List.set_cons_zero, List.set_cons_succ]
      refine take_put (i := 2) (oi := _) (v := ?_) 136 rfl rfl (by kernel_rfl) (by kernel_rfl) (by kernel_rfl) (fun _ _ _ h => h) (Or.inl ⟨by rfl, ?hy2⟩) (by assumption) ?_
      case hy2 => ((intro W hSw); (try dsimp only at hSw); go_simp; try (with_reducible rfl))
      simp only [List.set_cons_zero, List.set_cons_succ]
      refine take_put (i := 3) (oi := _) (v := _) 137 rfl rfl (by kernel_rfl) (by kernel_rfl) (by kernel_rfl) (fun _ _ _ h => h) (yieldsIf_load_mid (by rfl) _ _ rfl w1.heap.size 0 rfl (ks.map bv) _ (fun W hW => (K5.out.below hW K5.out.lt).range 0) Try.underlying23 rfl (by rw [KM.out]; exact HIK.out)) (by assumption) ?_
      simp only [List.set_cons_zero, List.set_cons_succ]
      refine take_put (i := 4) (oi := _) (v := ?_) 138 rfl rfl (by kernel_rfl) (by kernel_rfl) (by kernel_rfl) (fun _ _ _ h => h) (Or.inl ⟨by rfl, ?hy4⟩) (by assumption) ?_
      case hy4 => ((intro W hSw); (try dsimp only at hSw); go_simp; try (with_reducible rfl))
      simp only [List.set_cons_zero, List.set_cons_succ]
      refine wpAnyH_ready (rs := [5]) (by kernel_rfl) (by simp) ?_
      refine AllReadyH.cons (o := _) rfl (fun K hK => ?_) AllReadyH.nil
      go_simp
      refine (HCB.out _ (by assumption)).mono ?_
      rintro e V1 ⟨rfl, hb8⟩
      refine hK.out _ _ ?_ (fun hHeld => ?_)
      · (first | (exact hHeld.trans (hb9.mono hHeld.size)) | (exact hHeld.trans (hb8.mono hHeld.size)) | (exact (Below.refl _ _).drew))
      clear hK K
      try simp only [Act.put, List.setIfInBounds_toArray, List.set_cons_zero, List.set_cons_succ]
      refine take_put (i := 6) (oi := _) (v := ?_) 140 rfl rfl (by kernel_rfl) (by kernel_rfl) (by kernel_rfl) (fun _ _ _ h => h) (Or.inl ⟨by rfl, ?hy6⟩) (by assumption) ?_
      case hy6 => ((intro W hSw); (try dsimp only at hSw); go_simp; try (with_reducible rfl))
      simp only [List.set_cons_zero, List.set_cons_succ]
      refine take_put (i := 7) (oi := _) (v := ?_) 141 rfl rfl (by kernel_rfl) (by kernel_rfl) (by kernel_rfl) (fun _ _ _ h => h) (Or.inl ⟨by rfl, ?hy7⟩) (by assumption) ?_
      case hy7 => ((intro W hSw); (try dsimp only at hSw); go_simp; try (with_reducible rfl))
      simp only [List.set_cons_zero, List.set_cons_succ]
      refine take_put (i := 8) (oi := _) (v := ?_) 142 rfl rfl (by kernel_rfl) (by kernel_rfl) (by kernel_rfl) (fun _ _ _ h => h) (Or.inl ⟨by rfl, ?hy8⟩) (by assumption) ?_
      case hy8 => ((intro W hSw); (try dsimp only at hSw); go_simp; try (with_reducible rfl))
      simp only [List.set_cons_zero, List.set_cons_succ]
      refine wpAnyH_ready (rs := [9]) (by kernel_rfl) (by simp) ?_
      refine AllReadyH.cons (o := _) rfl (fun K hK => ?_) AllReadyH.nil
      go_simp
      refine (shamAwake_any HS _).mono ?_
      rintro e V2 ⟨rfl, hb9⟩
      refine hK.out _ _ ?_ (fun hHeld => ?_)
      · (first | (exact hHeld.trans (hb9.mono hHeld.size)) | (exact hHeld.trans (hb8.mono hHeld.size)) | (exact (Below.refl _ _).drew))
      clear hK K
      try simp only [Act.put, List.setIfInBounds_toArray, List.set_cons_zero, List.set_cons_succ]
      refine take_put (i := 10) (oi := _) (v := ?_) 144 rfl rfl (by kernel_rfl) (by kernel_rfl) (by kernel_rfl) (fun _ _ _ h => h) (Or.inl ⟨by rfl, ?hy10⟩) (by assumption) ?_
      case hy10 => ((intro W hSw); (try dsimp only at hSw); go_simp; try (with_reducible rfl))
      simp only [List.set_cons_zero, List.set_cons_succ]
      refine take_put (i := 11) (oi := _) (v := ?_) 6 rfl rfl (by kernel_rfl) (by kernel_rfl) (by kernel_rfl) (fun _ _ _ h => h) (Or.inl ⟨by rfl, ?hy11⟩) (by assumption) ?_
      case hy11 => ((intro W hSw); (try dsimp only at hSw); go_simp; try (with_reducible rfl))
      simp only [List.set_cons_zero, List.set_cons_succ]
      refine wpAnyH_done (by kernel_rfl) ?_ _
      have D8 := Lib.hid hHeld
      clear hHeld
      go_wp2_with (fail)
      go_ret
      exact ⟨rfl, D5.out.trans (D8.out.mono D5.out.size)⟩
    have g6 : (p : Int) ≠ 0 := by omega
    have g6' : ((p : Int) == 0) = false := by rw [beq_eq_false_iff_ne]; exact g6
    have HPN : Hid (p ≠ 0) := Lib.hid h6
    clear h5 h6 hp
    go_enter Try.func4, Try.ntmps4
    go_wp2_with (fail)
    refine (HE _ L w p HLF.out H8.out (.inr ⟨fun e => by have := H0.out; rw [e] at this; exact absurd this (by decide), by rw [HP.out]; exact HPN.out, HP.out.symm⟩)).mono ?_
    rintro e w1 ⟨rfl, hb1⟩
    have D1 := Lib.hid hb1
    obtain ⟨ks, hks⟩ : ∃ ks, ks = zeros32 := ⟨_, rfl⟩
    have KL : Hid (ks.length = 32) := Lib.hid (by rw [hks]; simp [zeros32])
    have KM : Hid ((ks.map bv).length = 32) := Lib.hid (by rw [List.length_map]; exact KL.out)
    have HKS := Lib.hid hks
    rw [← hks]
    clear hb1 hks
    unfold arrV
    obtain ⟨W2, hW2⟩ : ∃ W : World, W = w1.alloc (.cells (zeros32.map bv).toArray 23) := ⟨_, rfl⟩
    have K2 : Hid (Blk W2 w1.heap.size 23 (zeros32.map bv)) := Lib.hid (by rw [hW2]; exact Blk.made _ _ _)
    have L2 : Hid (Below w1.heap.size w1 W2) := Lib.hid (by rw [hW2]; exact (Below.refl _ _).alloc (Nat.le_refl _) _)
    go_upto_region 4 with (first
      | (refine wpList_alloc_z rfl 23 rfl _ HZ.out w1.heap.size rfl ?_
         rw [← hW2])
      | (refine wpList_store_blk rfl 23 _ _ rfl w1.heap.size 23 _ K2.out (ks.map bv) rfl rfl (by rw [KM.out, HZL.out]) (by rw [KM.out]; exact HIK.out) (bv_one _) ?_
         intro w3 hb3 hs3
         have K3 := Lib.hid hb3
         have S3 := Lib.hid hs3
         clear hb3 hs3))
    have D3 : Hid (Below w.heap.size w w3) := Lib.hid (D1.out.trans ((L2.out.trans S3.out.below).mono D1.out.size))
    clear hW2 K2 L2 S3 D1
    go_wp2_with (fail)
    refine (RE _ L a1 _ draws w3 1 (HLF.out.below D3.out) H8.out HK1.out HA12.out (HR.out.below D3.out) (by have := HDL.out; omega) (.inl ⟨HTL.out, rfl⟩)).mono ?_
    rintro e w4 ⟨s, rfl, hs, hb4⟩
    obtain ⟨As, cs, rfl, _, _, _⟩ := hs.form
    have D4 : Hid (Below w.heap.size w w4) := Lib.hid (D3.out.trans (hb4.mono D3.out.size))
    have K4 := Lib.hid (K3.out.below hb4 K3.out.lt)
    have RS := Lib.hid hs
    clear hs hb4 D3 K3
    simp only [List.length_nil] at RS ⊢
    go_wp2_with (fail)
    refine (refPlaces_any _ L w4 (HLF.out.below D4.out) (by have := H8.out; omega)).mono ?_
    rintro e w5' ⟨rfl, m5, rfl⟩
    obtain ⟨w5, hw5⟩ : ∃ W : World, W = w4.drewN m5 := ⟨_, rfl⟩
    have D5 : Hid (Below w.heap.size w w5) := Lib.hid (by rw [hw5]; exact below_drewN D4.out m5)
    have K5 : Hid (Blk w5 w1.heap.size 23 (ks.map bv)) := Lib.hid (by rw [hw5]; exact K4.out.drewN m5)
    have R5 : Hid (Rf 33 w5 _ _) := Lib.hid (by rw [hw5]; exact RS.out.drewN m5)
    rw [← hw5, HP.out]
    clear hw5 D4 K4 RS
    clear R5
    have hq : ∀ W, (Op.equalIn 10000 23 (.agg (ks.map bv).toArray) (.agg (ks.map bv).toArray)).run Try.prog W = .ok true W := fun W => by
      have h := run_equalIn_key 9998 ks ks KL.out KL.out W
      rw [decide_eq_true rfl] at h
      exact h
    have HB0 : Hid (Try.prog.built 23 [] = some (ks.map bv).toArray) := Lib.hid (by rw [HKS.out]; exact built_key0)
    go_wp2_with (first
      | refine wpList_build_is rfl 23 _ rfl _ rfl _ HB0.out ?_
      | refine wpList_load_blk rfl 23 (.tmp 7) rfl w1.heap.size rfl 23 (ks.map bv) _ K5.out Try.underlying23 rfl (by rw [KM.out]; exact HIK.out) ?_)
    refine (shamAwake_any HS _).mono ?_
    rintro e w9 ⟨rfl, hb9⟩
    go_wp2_with (fail)
    go_ret
    exact ⟨rfl, D5.out.trans (hb9.mono D5.out.size)⟩
  obtain ⟨t, rfl⟩ : ∃ t : Nat, a1 = (t : Int) := ⟨a1.toNat, by omega⟩
  have g4 : decide ((t : Int) < 1) = false := decide_eq_false h4
  have g4' : decide (t < 1) = false := decide_eq_false (by omega)
  have tI : (t : Int) ≤ 12 := HA12.out
  have t1 : (1 : Int) ≤ (t : Int) := by omega
  have HTG : Hid ((1 : Int) ≤ (t : Int)) := Lib.hid t1
  have HT1 : Hid (1 ≤ t) := Lib.hid (by omega)
  have HT12 : Hid (t ≤ 12) := Lib.hid (by omega)
  clear h4
  by_cases h6 : p = 0
  · subst h6
    have HPZ := HP
    by_cases h5 : L.length = 0
    · have g5 : (L.length : Int) = 0 := by omega
      have HL0 := Lib.hid h5
      clear h5 hp
      go_enter Try.func4, Try.ntmps4
      go_wp2_with (fail)
      refine (HE _ L w 6 HLF.out H8.out (.inl ⟨List.eq_nil_of_length_eq_zero HL0.out, rfl⟩)).mono ?_
      rintro e w1 ⟨rfl, hb1⟩
      have D1 := Lib.hid hb1
      obtain ⟨ks, hks⟩ : ∃ ks, ks = zeros32 := ⟨_, rfl⟩
      have KL : Hid (ks.length = 32) := Lib.hid (by rw [hks]; simp [zeros32])
      have KM : Hid ((ks.map bv).length = 32) := Lib.hid (by rw [List.length_map]; exact KL.out)
      have HKS := Lib.hid hks
      rw [← hks]
      clear hb1 hks
      unfold arrV
      obtain ⟨W2, hW2⟩ : ∃ W : World, W = w1.alloc (.cells (zeros32.map bv).toArray 23) := ⟨_, rfl⟩
      have K2 : Hid (Blk W2 w1.heap.size 23 (zeros32.map bv)) := Lib.hid (by rw [hW2]; exact Blk.made _ _ _)
      have L2 : Hid (Below w1.heap.size w1 W2) := Lib.hid (by rw [hW2]; exact (Below.refl _ _).alloc (Nat.le_refl _) _)
      go_upto_region 4 with (first
        | (refine wpList_alloc_z rfl 23 rfl _ HZ.out w1.heap.size rfl ?_
           rw [← hW2])
        | (refine wpList_store_blk rfl 23 _ _ rfl w1.heap.size 23 _ K2.out (ks.map bv) rfl rfl (by rw [KM.out, HZL.out]) (by rw [KM.out]; exact HIK.out) (bv_one _) ?_
           intro w3 hb3 hs3
           have K3 := Lib.hid hb3
           have S3 := Lib.hid hs3
           clear hb3 hs3))
      have D3 : Hid (Below w.heap.size w w3) := Lib.hid (D1.out.trans ((L2.out.trans S3.out.below).mono D1.out.size))
      clear hW2 K2 L2 S3 D1
      go_wp2_with (fail)
      refine (RC _ L t _ draws w3 (HLF.out.below D3.out) H8.out HT1.out HT12.out (HR.out.below D3.out) (by have := HDL.out; omega) HPZ.out).mono ?_
      rintro e w4 ⟨s, rfl, hs, hb4⟩
      obtain ⟨As, cs, rfl, _, _, _⟩ := hs.form
      have D4 : Hid (Below w.heap.size w w4) := Lib.hid (D3.out.trans (hb4.mono D3.out.size))
      have K4 := Lib.hid (K3.out.below hb4 K3.out.lt)
      have RS := Lib.hid hs
      clear hs hb4 D3 K3
      rw [refrB_length] at RS ⊢
      go_wp2_with (fail)
      refine (refPlaces_any _ L w4 (HLF.out.below D4.out) (by have := H8.out; omega)).mono ?_
      rintro e w5' ⟨rfl, m5, rfl⟩
      obtain ⟨w5, hw5⟩ : ∃ W : World, W = w4.drewN m5 := ⟨_, rfl⟩
      have D5 : Hid (Below w.heap.size w w5) := Lib.hid (by rw [hw5]; exact below_drewN D4.out m5)
      have K5 : Hid (Blk w5 w1.heap.size 23 (ks.map bv)) := Lib.hid (by rw [hw5]; exact K4.out.drewN m5)
      have R5 : Hid (Rf 33 w5 _ _) := Lib.hid (by rw [hw5]; exact RS.out.drewN m5)
      rw [← hw5, HP.out]
      clear hw5 D4 K4 RS
      go_wp2_with (fail)
      refine cmi_loop _ _ _ _ _ _ _ _ _ _ _ _ _ _ _ _ _ _ _ _ _ _ _ _ _ _ _ _ _ _ _ _ _ _ _ _ _ _ _ _ _ _ _ _ _ _ _ _ _ _ _ _ _ _ _ _ _ _ _ _ _ _ _ _ _ _ _ _ _ _ _ _ _ _ _ _ _ _ _ _ _ _ _ _ _ _ _ _ _ _ _ _ _ _ _ _ _ _ _ _ _ _ _ _ _ _ _ _ _ _ _ _ _ _ _ _ _ _ _ _ _ _ _ _ _ _ _ _ _ _ _ _ _ _ _ _ _ _ _ _ L t cl cd Al Ad draws w5 H8.out HT1.out HT12.out HDL.out (Lib.hid (HLF.out.below D5.out)) (Lib.hid (HR.out.below D5.out)) (Lib.hid ?_)
      intro u13 u14 u15 u62 u63 u64 u65 u66 u67 u68 u69 u70 u71 u72 u73 u74 u75 u76 u77 u78 u79 u80 u81 u82 u83 u84 u85 u86 u87 u88 u89 u90 u91 u92 u93 u94 u95 u96 u97 u98 u99 sv w6 R6 B6
      have RS6 : Hid (Rf 33 w6 _ _) := Lib.hid (R5.out.below B6.out)
      have D6 : Hid (Below w.heap.size w w6) := Lib.hid (D5.out.trans (B6.out.mono D5.out.size))
      have K6 := Lib.hid (K5.out.below B6.out K5.out.lt)
      clear R5 D5 K5 B6
      go_wp2_with (fail)
      refine (refSame_any _ sv (refrB L t draws) (refrB L t draws) w6 RS6.out R6.out (by rw [refrB_length]; have := H8.out; omega) (by rw [refrB_length]; have := H8.out; omega)).mono ?_
      rintro e w7' ⟨rfl, m7, rfl⟩
      rw [decide_eq_true rfl]
      obtain ⟨w7, hw7⟩ : ∃ W : World, W = w6.drewN m7 := ⟨_, rfl⟩
      have D7 : Hid (Below w.heap.size w w7) := Lib.hid (by rw [hw7]; exact below_drewN D6.out m7)
      have K7 : Hid (Blk w7 w1.heap.size 23 (ks.map bv)) := Lib.hid (by rw [hw7]; exact K6.out.drewN m7)
      rw [← hw7]
      clear hw7 D6 K6 R6 RS6
      have hq : ∀ W, (Op.equalIn 10000 23 (.agg (ks.map bv).toArray) (.agg (ks.map bv).toArray)).run Try.prog W = .ok true W := fun W => by
        have h := run_equalIn_key 9998 ks ks KL.out KL.out W
        rw [decide_eq_true rfl] at h
        exact h
      have HB0 : Hid (Try.prog.built 23 [] = some (ks.map bv).toArray) := Lib.hid (by rw [HKS.out]; exact built_key0)
      go_wp2_with (first
        | refine wpList_build_is rfl 23 _ rfl _ rfl _ HB0.out ?_
        | refine wpList_load_blk rfl 23 (.tmp 7) rfl w1.heap.size rfl 23 (ks.map bv) _ K7.out Try.underlying23 rfl (by rw [KM.out]; exact HIK.out) ?_)
      refine (shamAwake_any HS _).mono ?_
      rintro e w9 ⟨rfl, hb9⟩
      go_wp2_with (fail)
      go_ret
      exact ⟨rfl, D7.out.trans (hb9.mono D7.out.size)⟩
    have g5 : (L.length : Int) ≠ 0 := by omega
    have g5' : ((L.length : Int) == 0) = false := by rw [beq_eq_false_iff_ne]; exact g5
    have g5'' : (L.length == 0) = false := by rw [beq_eq_false_iff_ne]; exact h5
    have H0 : Hid (0 < L.length) := Lib.hid (by omega)
    clear h5 hp
    go_enter Try.func4, Try.ntmps4
    go_wp2_with (fail)
    refine (HC _ L w HLF.out H0.out H8.out HPZ.out).mono ?_
    rintro e w1 ⟨rfl, hb1⟩
    have D1 := Lib.hid hb1
    obtain ⟨ks, hks⟩ : ∃ ks, ks = combB L := ⟨_, rfl⟩
    have KL : Hid (ks.length = 32) := Lib.hid (by rw [hks]; exact combB_length L)
    have KM : Hid ((ks.map bv).length = 32) := Lib.hid (by rw [List.length_map]; exact KL.out)
    have HKS := Lib.hid hks
    rw [← hks]
    clear hb1 hks
    unfold arrV
    obtain ⟨W2, hW2⟩ : ∃ W : World, W = w1.alloc (.cells (zeros32.map bv).toArray 23) := ⟨_, rfl⟩
    have K2 : Hid (Blk W2 w1.heap.size 23 (zeros32.map bv)) := Lib.hid (by rw [hW2]; exact Blk.made _ _ _)
    have L2 : Hid (Below w1.heap.size w1 W2) := Lib.hid (by rw [hW2]; exact (Below.refl _ _).alloc (Nat.le_refl _) _)
    go_upto_region 4 with (first
      | (refine wpList_alloc_z rfl 23 rfl _ HZ.out w1.heap.size rfl ?_
         rw [← hW2])
      | (refine wpList_store_blk rfl 23 _ _ rfl w1.heap.size 23 _ K2.out (ks.map bv) rfl rfl (by rw [KM.out, HZL.out]) (by rw [KM.out]; exact HIK.out) (bv_one _) ?_
         intro w3 hb3 hs3
         have K3 := Lib.hid hb3
         have S3 := Lib.hid hs3
         clear hb3 hs3))
    have D3 : Hid (Below w.heap.size w w3) := Lib.hid (D1.out.trans ((L2.out.trans S3.out.below).mono D1.out.size))
    clear hW2 K2 L2 S3 D1
    go_wp2_with (fail)
    refine (RC _ L t _ draws w3 (HLF.out.below D3.out) H8.out HT1.out HT12.out (HR.out.below D3.out) (by have := HDL.out; omega) HPZ.out).mono ?_
    rintro e w4 ⟨s, rfl, hs, hb4⟩
    obtain ⟨As, cs, rfl, _, _, _⟩ := hs.form
    have D4 : Hid (Below w.heap.size w w4) := Lib.hid (D3.out.trans (hb4.mono D3.out.size))
    have K4 := Lib.hid (K3.out.below hb4 K3.out.lt)
    have RS := Lib.hid hs
    clear hs hb4 D3 K3
    rw [refrB_length] at RS ⊢
    go_wp2_with (fail)
    refine (refPlaces_any _ L w4 (HLF.out.below D4.out) (by have := H8.out; omega)).mono ?_
    rintro e w5' ⟨rfl, m5, rfl⟩
    obtain ⟨w5, hw5⟩ : ∃ W : World, W = w4.drewN m5 := ⟨_, rfl⟩
    have D5 : Hid (Below w.heap.size w w5) := Lib.hid (by rw [hw5]; exact below_drewN D4.out m5)
    have K5 : Hid (Blk w5 w1.heap.size 23 (ks.map bv)) := Lib.hid (by rw [hw5]; exact K4.out.drewN m5)
    have R5 : Hid (Rf 33 w5 _ _) := Lib.hid (by rw [hw5]; exact RS.out.drewN m5)
    rw [← hw5, HP.out]
    clear hw5 D4 K4 RS
    go_wp2_with (fail)
    refine cmi_loop _ _ _ _ _ _ _ _ _ _ _ _ _ _ _ _ _ _ _ _ _ _ _ _ _ _ _ _ _ _ _ _ _ _ _ _ _ _ _ _ _ _ _ _ _ _ _ _ _ _ _ _ _ _ _ _ _ _ _ _ _ _ _ _ _ _ _ _ _ _ _ _ _ _ _ _ _ _ _ _ _ _ _ _ _ _ _ _ _ _ _ _ _ _ _ _ _ _ _ _ _ _ _ _ _ _ _ _ _ _ _ _ _ _ _ _ _ _ _ _ _ _ _ _ _ _ _ _ _ _ _ _ _ _ _ _ _ _ _ _ L t cl cd Al Ad draws w5 H8.out HT1.out HT12.out HDL.out (Lib.hid (HLF.out.below D5.out)) (Lib.hid (HR.out.below D5.out)) (Lib.hid ?_)
    intro u13 u14 u15 u62 u63 u64 u65 u66 u67 u68 u69 u70 u71 u72 u73 u74 u75 u76 u77 u78 u79 u80 u81 u82 u83 u84 u85 u86 u87 u88 u89 u90 u91 u92 u93 u94 u95 u96 u97 u98 u99 sv w6 R6 B6
    have RS6 : Hid (Rf 33 w6 _ _) := Lib.hid (R5.out.below B6.out)
    have D6 : Hid (Below w.heap.size w w6) := Lib.hid (D5.out.trans (B6.out.mono D5.out.size))
    have K6 := Lib.hid (K5.out.below B6.out K5.out.lt)
    clear R5 D5 K5 B6
    go_wp2_with (fail)
    refine (refSame_any _ sv (refrB L t draws) (refrB L t draws) w6 RS6.out R6.out (by rw [refrB_length]; have := H8.out; omega) (by rw [refrB_length]; have := H8.out; omega)).mono ?_
    rintro e w7' ⟨rfl, m7, rfl⟩
    rw [decide_eq_true rfl]
    obtain ⟨w7, hw7⟩ : ∃ W : World, W = w6.drewN m7 := ⟨_, rfl⟩
    have D7 : Hid (Below w.heap.size w w7) := Lib.hid (by rw [hw7]; exact below_drewN D6.out m7)
    have K7 : Hid (Blk w7 w1.heap.size 23 (ks.map bv)) := Lib.hid (by rw [hw7]; exact K6.out.drewN m7)
    rw [← hw7]
    clear hw7 D6 K6 R6 RS6
    have hq : ∀ W, (Op.equalIn 10000 23 (.agg (ks.map bv).toArray) (.agg (ks.map bv).toArray)).run Try.prog W = .ok true W := fun W => by
      have h := run_equalIn_key 9998 ks ks KL.out KL.out W
      rw [decide_eq_true rfl] at h
      exact h
    have HCB : Hid (∀ W, Below w7.heap.size w7 W → Calls Try.prog 15 #[.slice Al L.length cl] W fun e W' => e = .returned (.agg (ks.map bv).toArray) ∧ Below W.heap.size W W') := Lib.hid fun W hW => by
      rw [HKS.out]
      exact refComb_any _ L W (HLF.out.below (D7.out.trans (hW.mono D7.out.size))) (by have := H8.out; omega) H0.out
    go_wp2_with (fail)
    refine wp_region_held_drew (S := (fun W => Below w7.heap.size w7 W)) (by kernel_rfl) ?_ (fun hHeld => ?_)
    · (first | (exact hHeld.trans (hb9.mono hHeld.size)) | (exact hHeld.trans (hb8.mono hHeld.size)) | (exact (Below.refl _ _).drew))
    refine take_put (i := 0) (oi := _) (v := ?_) 134 rfl rfl (by kernel_rfl) (by kernel_rfl) (by kernel_rfl) (fun _ _ _ h => h) (Or.inl ⟨by rfl, ?hy0⟩) (by assumption) ?_
    case hy0 => ((intro W hSw); (try dsimp only at hSw); go_simp; try (with_reducible rfl))
    simp only [List.set_cons_zero, List.set_cons_succ]
    refine take_put (i := 1) (oi := _) (v := ?_) 135 rfl rfl (by kernel_rfl) (by kernel_rfl) (by kernel_rfl) (fun _ _ _ h => h) (Or.inl ⟨by rfl, ?hy1⟩) (by assumption) ?_
    case hy1 => ((intro W hSw); (try dsimp only at hSw); go_simp; try (with_reducible rfl))
    simp only [List.set_cons_zero, List.set_cons_succ]
    refine take_put (i := 2) (oi := _) (v := ?_) 136 rfl rfl (by kernel_rfl) (by kernel_rfl) (by kernel_rfl) (fun _ _ _ h => h) (Or.inl ⟨by rfl, ?hy2⟩) (by assumption) ?_
    case hy2 => ((intro W hSw); (try dsimp only at hSw); go_simp; try (with_reducible rfl))
    simp only [List.set_cons_zero, List.set_cons_succ]
    refine take_put (i := 3) (oi := _) (v := _) 137 rfl rfl (by kernel_rfl) (by kernel_rfl) (by kernel_rfl) (fun _ _ _ h => h) (yieldsIf_load_mid (by rfl) _ _ rfl w1.heap.size 0 rfl (ks.map bv) _ (fun W hW => (K7.out.below hW K7.out.lt).range 0) Try.underlying23 rfl (by rw [KM.out]; exact HIK.out)) (by assumption) ?_
    simp only [List.set_cons_zero, List.set_cons_succ]
    refine take_put (i := 4) (oi := _) (v := ?_) 138 rfl rfl (by kernel_rfl) (by kernel_rfl) (by kernel_rfl) (fun _ _ _ h => h) (Or.inl ⟨by rfl, ?hy4⟩) (by assumption) ?_
    case hy4 => ((intro W hSw); (try dsimp only at hSw); go_simp; try (with_reducible rfl))
    simp only [List.set_cons_zero, List.set_cons_succ]
    refine wpAnyH_ready (rs := [5]) (by kernel_rfl) (by simp) ?_
    refine AllReadyH.cons (o := _) rfl (fun K hK => ?_) AllReadyH.nil
    go_simp
    refine (HCB.out _ (by assumption)).mono ?_
    rintro e V1 ⟨rfl, hb8⟩
    refine hK.out _ _ ?_ (fun hHeld => ?_)
    · (first | (exact hHeld.trans (hb9.mono hHeld.size)) | (exact hHeld.trans (hb8.mono hHeld.size)) | (exact (Below.refl _ _).drew))
    clear hK K
    try simp only [Act.put, List.setIfInBounds_toArray, List.set_cons_zero, List.set_cons_succ]
    refine take_put (i := 6) (oi := _) (v := ?_) 140 rfl rfl (by kernel_rfl) (by kernel_rfl) (by kernel_rfl) (fun _ _ _ h => h) (Or.inl ⟨by rfl, ?hy6⟩) (by assumption) ?_
    case hy6 => ((intro W hSw); (try dsimp only at hSw); go_simp; try (with_reducible rfl))
    simp only [List.set_cons_zero, List.set_cons_succ]
    refine take_put (i := 7) (oi := _) (v := ?_) 141 rfl rfl (by kernel_rfl) (by kernel_rfl) (by kernel_rfl) (fun _ _ _ h => h) (Or.inl ⟨by rfl, ?hy7⟩) (by assumption) ?_
    case hy7 => ((intro W hSw); (try dsimp only at hSw); go_simp; try (with_reducible rfl))
    simp only [List.set_cons_zero, List.set_cons_succ]
    refine take_put (i := 8) (oi := _) (v := ?_) 142 rfl rfl (by kernel_rfl) (by kernel_rfl) (by kernel_rfl) (fun _ _ _ h => h) (Or.inl ⟨by rfl, ?hy8⟩) (by assumption) ?_
    case hy8 => ((intro W hSw); (try dsimp only at hSw); go_simp; try (with_reducible rfl))
    simp only [List.set_cons_zero, List.set_cons_succ]
    refine wpAnyH_ready (rs := [9]) (by kernel_rfl) (by simp) ?_
    refine AllReadyH.cons (o := _) rfl (fun K hK => ?_) AllReadyH.nil
    go_simp
    refine (shamAwake_any HS _).mono ?_
    rintro e V2 ⟨rfl, hb9⟩
    refine hK.out _ _ ?_ (fun hHeld => ?_)
    · (first | (exact hHeld.trans (hb9.mono hHeld.size)) | (exact hHeld.trans (hb8.mono hHeld.size)) | (exact (Below.refl _ _).drew))
    clear hK K
    try simp only [Act.put, List.setIfInBounds_toArray, List.set_cons_zero, List.set_cons_succ]
    refine take_put (i := 10) (oi := _) (v := ?_) 144 rfl rfl (by kernel_rfl) (by kernel_rfl) (by kernel_rfl) (fun _ _ _ h => h) (Or.inl ⟨by rfl, ?hy10⟩) (by assumption) ?_
    case hy10 => ((intro W hSw); (try dsimp only at hSw); go_simp; try (with_reducible rfl))
    simp only [List.set_cons_zero, List.set_cons_succ]
    refine take_put (i := 11) (oi := _) (v := ?_) 6 rfl rfl (by kernel_rfl) (by kernel_rfl) (by kernel_rfl) (fun _ _ _ h => h) (Or.inl ⟨by rfl, ?hy11⟩) (by assumption) ?_
    case hy11 => ((intro W hSw); (try dsimp only at hSw); go_simp; try (with_reducible rfl))
    simp only [List.set_cons_zero, List.set_cons_succ]
    refine wpAnyH_done (by kernel_rfl) ?_ _
    have D8 := Lib.hid hHeld
    clear hHeld
    go_wp2_with (fail)
    go_ret
    exact ⟨rfl, D7.out.trans (D8.out.mono D7.out.size)⟩
  have h5 : L.length ≠ 0 := fun h => h6 (by rw [hp]; exact places_nil h)
  have g5 : (L.length : Int) ≠ 0 := by omega
  have g5' : ((L.length : Int) == 0) = false := by rw [beq_eq_false_iff_ne]; exact g5
  have g5'' : (L.length == 0) = false := by rw [beq_eq_false_iff_ne]; exact h5
  have H0 : Hid (0 < L.length) := Lib.hid (by omega)
  have g6 : (p : Int) ≠ 0 := by omega
  have g6' : ((p : Int) == 0) = false := by rw [beq_eq_false_iff_ne]; exact g6
  have HPN : Hid (p ≠ 0) := Lib.hid h6
  clear h5 h6 hp
  go_enter Try.func4, Try.ntmps4
  go_wp2_with (fail)
  refine (HE _ L w p HLF.out H8.out (.inr ⟨fun e => by have := H0.out; rw [e] at this; exact absurd this (by decide), by rw [HP.out]; exact HPN.out, HP.out.symm⟩)).mono ?_
  rintro e w1 ⟨rfl, hb1⟩
  have D1 := Lib.hid hb1
  obtain ⟨ks, hks⟩ : ∃ ks, ks = zeros32 := ⟨_, rfl⟩
  have KL : Hid (ks.length = 32) := Lib.hid (by rw [hks]; simp [zeros32])
  have KM : Hid ((ks.map bv).length = 32) := Lib.hid (by rw [List.length_map]; exact KL.out)
  have HKS := Lib.hid hks
  rw [← hks]
  clear hb1 hks
  unfold arrV
  obtain ⟨W2, hW2⟩ : ∃ W : World, W = w1.alloc (.cells (zeros32.map bv).toArray 23) := ⟨_, rfl⟩
  have K2 : Hid (Blk W2 w1.heap.size 23 (zeros32.map bv)) := Lib.hid (by rw [hW2]; exact Blk.made _ _ _)
  have L2 : Hid (Below w1.heap.size w1 W2) := Lib.hid (by rw [hW2]; exact (Below.refl _ _).alloc (Nat.le_refl _) _)
  go_upto_region 4 with (first
    | (refine wpList_alloc_z rfl 23 rfl _ HZ.out w1.heap.size rfl ?_
       rw [← hW2])
    | (refine wpList_store_blk rfl 23 _ _ rfl w1.heap.size 23 _ K2.out (ks.map bv) rfl rfl (by rw [KM.out, HZL.out]) (by rw [KM.out]; exact HIK.out) (bv_one _) ?_
       intro w3 hb3 hs3
       have K3 := Lib.hid hb3
       have S3 := Lib.hid hs3
       clear hb3 hs3))
  have D3 : Hid (Below w.heap.size w w3) := Lib.hid (D1.out.trans ((L2.out.trans S3.out.below).mono D1.out.size))
  clear hW2 K2 L2 S3 D1
  go_wp2_with (fail)
  refine (RE _ L (t : Int) _ draws w3 p (HLF.out.below D3.out) H8.out HK1.out HA12.out (HR.out.below D3.out) (by have := HDL.out; omega) (.inr ⟨HTG.out, by rw [HP.out]; exact HPN.out, HP.out.symm⟩)).mono ?_
  rintro e w4 ⟨s, rfl, hs, hb4⟩
  obtain ⟨As, cs, rfl, _, _, _⟩ := hs.form
  have D4 : Hid (Below w.heap.size w w4) := Lib.hid (D3.out.trans (hb4.mono D3.out.size))
  have K4 := Lib.hid (K3.out.below hb4 K3.out.lt)
  have RS := Lib.hid hs
  clear hs hb4 D3 K3
  simp only [List.length_nil] at RS ⊢
  go_wp2_with (fail)
  refine (refPlaces_any _ L w4 (HLF.out.below D4.out) (by have := H8.out; omega)).mono ?_
  rintro e w5' ⟨rfl, m5, rfl⟩
  obtain ⟨w5, hw5⟩ : ∃ W : World, W = w4.drewN m5 := ⟨_, rfl⟩
  have D5 : Hid (Below w.heap.size w w5) := Lib.hid (by rw [hw5]; exact below_drewN D4.out m5)
  have K5 : Hid (Blk w5 w1.heap.size 23 (ks.map bv)) := Lib.hid (by rw [hw5]; exact K4.out.drewN m5)
  have R5 : Hid (Rf 33 w5 _ _) := Lib.hid (by rw [hw5]; exact RS.out.drewN m5)
  rw [← hw5, HP.out]
  clear hw5 D4 K4 RS
  clear R5
  have hq : ∀ W, (Op.equalIn 10000 23 (.agg (ks.map bv).toArray) (.agg (ks.map bv).toArray)).run Try.prog W = .ok true W := fun W => by
    have h := run_equalIn_key 9998 ks ks KL.out KL.out W
    rw [decide_eq_true rfl] at h
    exact h
  have HB0 : Hid (Try.prog.built 23 [] = some (ks.map bv).toArray) := Lib.hid (by rw [HKS.out]; exact built_key0)
  go_wp2_with (first
    | refine wpList_build_is rfl 23 _ rfl _ rfl _ HB0.out ?_
    | refine wpList_load_blk rfl 23 (.tmp 7) rfl w1.heap.size rfl 23 (ks.map bv) _ K5.out Try.underlying23 rfl (by rw [KM.out]; exact HIK.out) ?_)
  refine (shamAwake_any HS _).mono ?_
  rintro e w9 ⟨rfl, hb9⟩
  go_wp2_with (fail)
  go_ret
  exact ⟨rfl, D5.out.trans (hb9.mono D5.out.size)⟩
end Go.Proofs.Ytpegnafapjcanaa.shamirCombines
