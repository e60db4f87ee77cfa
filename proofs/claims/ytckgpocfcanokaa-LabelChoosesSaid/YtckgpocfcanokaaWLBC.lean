/- The walk of 'LabelChooses' (law 15). Premise: the contracts. -/
import Derived.Test.YtckgpocfcanokaaLbAw
import Derived.Test.YtckgpocfcanokaaLbGrt
import Derived.Test.YtckgpocfcanokaaLbCho
import Derived.Deep.RegionHeld3
import Derived.Test.YtckgpocfcanokaaKept
import Derived.Deep.Cut
import Derived.BigQuiet
namespace Go.Proofs.Ytckgpocfcanokaa
open Go.RowKit

set_option maxRecDepth 100000 in
set_option maxHeartbeats 4000000 in
theorem labelChooses.walkC (LC : LabelC) (m : ByteArray) (vq : Value) (qs : List Qu) (n : ByteArray) (vs : Value) (ls : List Qu) (w : World) (k0 : RsQu w vq qs) (l0 : m.size ≤ maxLen) (k1 : RsLb w vs ls) (l1 : n.size ≤ maxLen) :
    Calls Try.prog 4 #[.agg #[.string m, vq], .agg #[.string n, vs]] w fun e w' => e = .returned (.bool true) ∧ Below w.heap.size w w' := by
  obtain ⟨B, c2, rfl, _⟩ := k0.form
  obtain ⟨A, c, rfl, _⟩ := k1.form
  obtain ⟨W0, hW0⟩ : ∃ W : World, W = (w.alloc (.cells #[.string m, .slice B qs.length c2] 28)).alloc (.cells #[.string n, .slice A ls.length c] 24) := ⟨_, rfl⟩
  have D0 : Hid (Below w.heap.size w W0) := Lib.hid (by rw [hW0]; exact (((Below.refl _ _).alloc (Nat.le_refl _) _).alloc (by simp) _))
  have X1 : Hid (Blk W0 w.heap.size 28 [.string m, .slice B qs.length c2]) := Lib.hid (by rw [hW0]; exact (Blk.made w _ _).alloc _)
  have X2 : Hid (Blk W0 (w.heap.size + 1) 24 [.string n, .slice A ls.length c]) := Lib.hid (by
    have h := Blk.made (w.alloc (.cells #[.string m, .slice B qs.length c2] 28)) 24 [.string n, .slice A ls.length c]
    rw [World.size_alloc] at h
    rw [hW0]
    exact h)
  obtain ⟨X, hX⟩ : ∃ X, X = w.heap.size := ⟨_, rfl⟩
  obtain ⟨Y, hY⟩ : ∃ Y, Y = w.heap.size + 1 := ⟨_, rfl⟩
  have HX : Hid (W0 = (w.alloc (.cells #[.string m, .slice B qs.length c2] 28)).alloc (.cells #[.string n, .slice A ls.length c] 24)) := Lib.hid hW0
  have R1 := Lib.hid (k0.below D0.out)
  have R2 := Lib.hid (k1.below D0.out)
  have M1 := Lib.hid (And.intro l0 l1)
  have HXY := Lib.hid (And.intro hX hY)
  rw [← hX] at X1
  rw [← hY] at X2
  have HS : Hid (∀ V, Below W0.heap.size W0 V → (V.cell? ⟨X, 0, none⟩ = some (.string m) ∧ V.cell? ⟨X, 1, none⟩ = some (.slice B qs.length c2) ∧ V.cell? ⟨Y, 0, none⟩ = some (.string n) ∧ V.cell? ⟨Y, 1, none⟩ = some (.slice A ls.length c) ∧ Below W0.heap.size W0 V)) := Lib.hid fun V hb => ⟨by rw [hb.cell (p := ⟨X, 0, none⟩) X1.out.lt, X1.out.cell]; rfl, by rw [hb.cell (p := ⟨X, 1, none⟩) X1.out.lt, X1.out.cell]; rfl, by rw [hb.cell (p := ⟨Y, 0, none⟩) X2.out.lt, X2.out.cell]; rfl, by rw [hb.cell (p := ⟨Y, 1, none⟩) X2.out.lt, X2.out.cell]; rfl, hb⟩
  obtain ⟨x0, x1, y0, y1, _⟩ := HS.out W0 (Below.refl _ _)
  clear hW0 hX hY k0 k1 l0 l1
  go_enter Try.func4, Try.ntmps4
  go_upto_region 1 with (fail)
  rw [← HX.out]
  rw [← HXY.out.2, ← HXY.out.1]
  clear HX HXY
  go_wp2_with (fail)
  refine (refGreatL_any n _ ls m _ qs W0 R2.out R1.out M1.out.2 M1.out.1).mono ?_
  rintro e wg ⟨b, rfl, hb, hbw⟩
  have B1 := Lib.hid hbw
  cases b with
  | true =>
    clear hb hbw
    go_wp2_with (fail)
    refine (awakeL_any LC _).mono ?_
    rintro e w1 ⟨rfl, hb1⟩
    have B2 := Lib.hid (D0.out.trans ((B1.out.trans (hb1.mono B1.out.size)).mono D0.out.size))
    clear hb1
    go_wp2_with (fail)
    go_ret
    exact ⟨rfl, B2.out⟩
  | false =>
    have HN := Lib.hid (hb rfl)
    obtain ⟨cb, hcb⟩ : ∃ cb, choosesB ⟨m, qs⟩ ⟨n, ls⟩ = cb := ⟨_, rfl⟩
    have HCH : Hid (∀ V, Below W0.heap.size W0 V → Calls Try.prog 13 #[.agg #[.string m, .slice B qs.length c2], .agg #[.string n, .slice A ls.length c]] V fun e V' => e = .returned (.bool cb) ∧ Below V.heap.size V V') := Lib.hid fun V hV => by
      rw [← hcb]
      exact LC.chooses m _ qs n _ ls V (R1.out.below hV) (R2.out.below hV) M1.out.1 M1.out.2 HN.out.2.2.1 HN.out.2.2.2
    have HRC : Hid (∀ V, Below W0.heap.size W0 V → Calls Try.prog 14 #[.agg #[.string m, .slice B qs.length c2], .agg #[.string n, .slice A ls.length c]] V fun e V' => e = .returned (.bool cb) ∧ Below V.heap.size V V') := Lib.hid fun V hV => by
      rw [← hcb]
      exact refChooses_any m _ qs n _ ls V (R1.out.below hV) (R2.out.below hV) HN.out.2.2
    have HCZ : Hid (∀ V, Below W0.heap.size W0 V → Calls Try.prog 13 #[.agg #[.string ⟨#[]⟩, .slice none 0 0], .agg #[.string n, .slice A ls.length c]] V fun e V' => e = .returned (.bool true) ∧ Below V.heap.size V V') := Lib.hid fun V hV => by
      have h := LC.chooses ByteArray.empty _ [] n _ ls V (rsQu_none V) (R2.out.below hV) (by decide) M1.out.2 HN.out.2.2.1 (by decide)
      rw [chooses_all] at h
      exact h
    have S1 := HS.out wg hbw
    have SD : ∀ {V : World}, (V.cell? ⟨X, 0, none⟩ = some (.string m) ∧ V.cell? ⟨X, 1, none⟩ = some (.slice B qs.length c2) ∧ V.cell? ⟨Y, 0, none⟩ = some (.string n) ∧ V.cell? ⟨Y, 1, none⟩ = some (.slice A ls.length c) ∧ Below W0.heap.size W0 V) → (V.drew.cell? ⟨X, 0, none⟩ = some (.string m) ∧ V.drew.cell? ⟨X, 1, none⟩ = some (.slice B qs.length c2) ∧ V.drew.cell? ⟨Y, 0, none⟩ = some (.string n) ∧ V.drew.cell? ⟨Y, 1, none⟩ = some (.slice A ls.length c) ∧ Below W0.heap.size W0 V.drew) := fun h => HS.out _ (h.2.2.2.2.drew)
    clear hb hbw hcb x0 x1 y0 y1
    have C1 : Hid (∀ V, (V.cell? ⟨X, 0, none⟩ = some (.string m) ∧ V.cell? ⟨X, 1, none⟩ = some (.slice B qs.length c2) ∧ V.cell? ⟨Y, 0, none⟩ = some (.string n) ∧ V.cell? ⟨Y, 1, none⟩ = some (.slice A ls.length c) ∧ Below W0.heap.size W0 V) → Calls Try.prog 13 #[.agg #[.string m, .slice B qs.length c2], .agg #[.string n, .slice A ls.length c]] V fun e V' => e = .returned (.bool cb) ∧ (V'.cell? ⟨X, 0, none⟩ = some (.string m) ∧ V'.cell? ⟨X, 1, none⟩ = some (.slice B qs.length c2) ∧ V'.cell? ⟨Y, 0, none⟩ = some (.string n) ∧ V'.cell? ⟨Y, 1, none⟩ = some (.slice A ls.length c) ∧ Below W0.heap.size W0 V')) := Lib.hid fun V hV => by
      have hB := hV.2.2.2.2
      refine (HCH.out V hB).mono ?_
      rintro e V' ⟨he, hb⟩
      exact ⟨he, HS.out V' (hB.trans (hb.mono hB.size))⟩
    have C2 : Hid (∀ V, (V.cell? ⟨X, 0, none⟩ = some (.string m) ∧ V.cell? ⟨X, 1, none⟩ = some (.slice B qs.length c2) ∧ V.cell? ⟨Y, 0, none⟩ = some (.string n) ∧ V.cell? ⟨Y, 1, none⟩ = some (.slice A ls.length c) ∧ Below W0.heap.size W0 V) → Calls Try.prog 14 #[.agg #[.string m, .slice B qs.length c2], .agg #[.string n, .slice A ls.length c]] V fun e V' => e = .returned (.bool cb) ∧ (V'.cell? ⟨X, 0, none⟩ = some (.string m) ∧ V'.cell? ⟨X, 1, none⟩ = some (.slice B qs.length c2) ∧ V'.cell? ⟨Y, 0, none⟩ = some (.string n) ∧ V'.cell? ⟨Y, 1, none⟩ = some (.slice A ls.length c) ∧ Below W0.heap.size W0 V')) := Lib.hid fun V hV => by
      have hB := hV.2.2.2.2
      refine (HRC.out V hB).mono ?_
      rintro e V' ⟨he, hb⟩
      exact ⟨he, HS.out V' (hB.trans (hb.mono hB.size))⟩
    have C3 : Hid (∀ V, (V.cell? ⟨X, 0, none⟩ = some (.string m) ∧ V.cell? ⟨X, 1, none⟩ = some (.slice B qs.length c2) ∧ V.cell? ⟨Y, 0, none⟩ = some (.string n) ∧ V.cell? ⟨Y, 1, none⟩ = some (.slice A ls.length c) ∧ Below W0.heap.size W0 V) → Calls Try.prog 13 #[.agg #[.string ⟨#[]⟩, .slice none 0 0], .agg #[.string n, .slice A ls.length c]] V fun e V' => e = .returned (.bool true) ∧ (V'.cell? ⟨X, 0, none⟩ = some (.string m) ∧ V'.cell? ⟨X, 1, none⟩ = some (.slice B qs.length c2) ∧ V'.cell? ⟨Y, 0, none⟩ = some (.string n) ∧ V'.cell? ⟨Y, 1, none⟩ = some (.slice A ls.length c) ∧ Below W0.heap.size W0 V')) := Lib.hid fun V hV => by
      have hB := hV.2.2.2.2
      refine (HCZ.out V hB).mono ?_
      rintro e V' ⟨he, hb⟩
      exact ⟨he, HS.out V' (hB.trans (hb.mono hB.size))⟩
    have C4 : Hid (∀ V, (V.cell? ⟨X, 0, none⟩ = some (.string m) ∧ V.cell? ⟨X, 1, none⟩ = some (.slice B qs.length c2) ∧ V.cell? ⟨Y, 0, none⟩ = some (.string n) ∧ V.cell? ⟨Y, 1, none⟩ = some (.slice A ls.length c) ∧ Below W0.heap.size W0 V) → Calls Try.prog 6 #[] V fun e V' => e = .returned (.bool true) ∧ (V'.cell? ⟨X, 0, none⟩ = some (.string m) ∧ V'.cell? ⟨X, 1, none⟩ = some (.slice B qs.length c2) ∧ V'.cell? ⟨Y, 0, none⟩ = some (.string n) ∧ V'.cell? ⟨Y, 1, none⟩ = some (.slice A ls.length c) ∧ Below W0.heap.size W0 V')) := Lib.hid fun V hV => by
      have hB := hV.2.2.2.2
      refine (awakeL_any LC V).mono ?_
      rintro e V' ⟨he, hb⟩
      exact ⟨he, HS.out V' (hB.trans (hb.mono hB.size))⟩
    go_wp2_with (fail)
    refine wp_region_held_drew (S := fun V => V.cell? ⟨X, 0, none⟩ = some (.string m) ∧ V.cell? ⟨X, 1, none⟩ = some (.slice B qs.length c2) ∧ V.cell? ⟨Y, 0, none⟩ = some (.string n) ∧ V.cell? ⟨Y, 1, none⟩ = some (.slice A ls.length c) ∧ Below W0.heap.size W0 V) (by kernel_rfl) ?_ (fun hHeld => ?_)
    · (first | assumption | exact SD (by assumption))
    refine take_put (i := 0) (oi := _) (v := ?_) 9 rfl rfl (by kernel_rfl) (by kernel_rfl) (by kernel_rfl) (fun _ _ _ h => h) (Or.inl ⟨by rfl, ?hy0⟩) (by assumption) ?_
    case hy0 => ((intro W hSw); (try dsimp only at hSw); go_simp; try (with_reducible rfl))
    simp only [List.set_cons_zero, List.set_cons_succ]
    refine take_put (i := 1) (oi := _) (v := ?_) 10 rfl rfl (by kernel_rfl) (by kernel_rfl) (by kernel_rfl) (fun _ _ _ h => h) (Or.inl ⟨by rfl, ?hy1⟩) (by assumption) ?_
    case hy1 => ((intro W hSw); (try dsimp only at hSw); go_simp; try (with_reducible rfl))
    simp only [List.set_cons_zero, List.set_cons_succ]
    refine take_put (i := 3) (oi := _) (v := ?_) 12 rfl rfl (by kernel_rfl) (by kernel_rfl) (by kernel_rfl) (fun _ _ _ h => h) (Or.inl ⟨by rfl, ?hy3⟩) (by assumption) ?_
    case hy3 => ((intro W hSw); (try dsimp only at hSw); go_simp; try (with_reducible rfl))
    simp only [List.set_cons_zero, List.set_cons_succ]
    refine take_put (i := 4) (oi := _) (v := ?_) 13 rfl rfl (by kernel_rfl) (by kernel_rfl) (by kernel_rfl) (fun _ _ _ h => h) (Or.inl ⟨by rfl, ?hy4⟩) (by assumption) ?_
    case hy4 => ((intro W hSw); (try dsimp only at hSw); go_simp; try (with_reducible rfl))
    simp only [List.set_cons_zero, List.set_cons_succ]
    refine wpAnyH_ready (rs := [2]) (by kernel_rfl) (by simp) ?_
    refine AllReadyH.cons (o := _) rfl (fun K hK => ?_) AllReadyH.nil
    go_simp
    (go_at_call 13; refine (C1.out _ ?_).mono ?_; (first | assumption | exact SD (by assumption)); rintro e v1 ⟨rfl, s1⟩)
    refine hK.out _ _ ?_ (fun hHeld => ?_)
    · (first | assumption | exact SD (by assumption))
    clear hK K
    try simp only [Act.put, List.setIfInBounds_toArray, List.set_cons_zero, List.set_cons_succ]
    refine wpAnyH_ready (rs := [5]) (by kernel_rfl) (by simp) ?_
    refine AllReadyH.cons (o := _) rfl (fun K hK => ?_) AllReadyH.nil
    go_simp
    (go_at_call 14; refine (C2.out _ ?_).mono ?_; (first | assumption | exact SD (by assumption)); rintro e v1 ⟨rfl, s1⟩)
    refine hK.out _ _ ?_ (fun hHeld => ?_)
    · (first | assumption | exact SD (by assumption))
    clear hK K
    try simp only [Act.put, List.setIfInBounds_toArray, List.set_cons_zero, List.set_cons_succ]
    refine take_put (i := 6) (oi := _) (v := ?_) 15 rfl rfl (by kernel_rfl) (by kernel_rfl) (by kernel_rfl) (fun _ _ _ h => h) (Or.inl ⟨by rfl, ?hy6⟩) (by assumption) ?_
    case hy6 => ((intro W hSw); (try dsimp only at hSw); go_simp; try (with_reducible rfl))
    simp only [List.set_cons_zero, List.set_cons_succ]
    refine take_put (i := 7) (oi := _) (v := ?_) 16 rfl rfl (by kernel_rfl) (by kernel_rfl) (by kernel_rfl) (fun _ _ _ h => h) (Or.inl ⟨by rfl, ?hy7⟩) (by assumption) ?_
    case hy7 => ((intro W hSw); (try dsimp only at hSw); go_simp; try (with_reducible rfl))
    simp only [List.set_cons_zero, List.set_cons_succ]
    refine take_put (i := 8) (oi := _) (v := ?_) 17 rfl rfl (by kernel_rfl) (by kernel_rfl) (by kernel_rfl) (fun _ _ _ h => h) (Or.inl ⟨by rfl, ?hy8⟩) (by assumption) ?_
    case hy8 => ((intro W hSw); (try dsimp only at hSw); go_simp; try (with_reducible rfl))
    simp only [List.set_cons_zero, List.set_cons_succ]
    refine take_put (i := 9) (oi := _) (v := ?_) 18 rfl rfl (by kernel_rfl) (by kernel_rfl) (by kernel_rfl) (fun _ _ _ h => h) (Or.inl ⟨by rfl, ?hy9⟩) (by assumption) ?_
    case hy9 => ((intro W hSw); (try dsimp only at hSw); go_simp; try (with_reducible rfl))
    simp only [List.set_cons_zero, List.set_cons_succ]
    refine wpAnyH_ready (rs := [10]) (by kernel_rfl) (by simp) ?_
    refine AllReadyH.cons (o := _) rfl (fun K hK => ?_) AllReadyH.nil
    go_simp
    (go_at_call 13; refine (C3.out _ ?_).mono ?_; (first | assumption | exact SD (by assumption)); rintro e v1 ⟨rfl, s1⟩)
    refine hK.out _ _ ?_ (fun hHeld => ?_)
    · (first | assumption | exact SD (by assumption))
    clear hK K
    try simp only [Act.put, List.setIfInBounds_toArray, List.set_cons_zero, List.set_cons_succ]
    refine take_put (i := 11) (oi := _) (v := ?_) 20 rfl rfl (by kernel_rfl) (by kernel_rfl) (by kernel_rfl) (fun _ _ _ h => h) (Or.inl ⟨by rfl, ?hy11⟩) (by assumption) ?_
    case hy11 => ((intro W hSw); (try dsimp only at hSw); go_simp; try (with_reducible rfl))
    simp only [List.set_cons_zero, List.set_cons_succ]
    refine take_put (i := 12) (oi := _) (v := ?_) 21 rfl rfl (by kernel_rfl) (by kernel_rfl) (by kernel_rfl) (fun _ _ _ h => h) (Or.inl ⟨by rfl, ?hy12⟩) (by assumption) ?_
    case hy12 => ((intro W hSw); (try dsimp only at hSw); go_simp; try (with_reducible rfl))
    simp only [List.set_cons_zero, List.set_cons_succ]
    refine wpAnyH_ready (rs := [13]) (by kernel_rfl) (by simp) ?_
    refine AllReadyH.cons (o := _) rfl (fun K hK => ?_) AllReadyH.nil
    go_simp
    (go_at_call 6; refine (C4.out _ ?_).mono ?_; (first | assumption | exact SD (by assumption)); rintro e v1 ⟨rfl, s1⟩)
    refine hK.out _ _ ?_ (fun hHeld => ?_)
    · (first | assumption | exact SD (by assumption))
    clear hK K
    try simp only [Act.put, List.setIfInBounds_toArray, List.set_cons_zero, List.set_cons_succ]
    refine take_put (i := 14) (oi := _) (v := ?_) 23 rfl rfl (by kernel_rfl) (by kernel_rfl) (by kernel_rfl) (fun _ _ _ h => h) (Or.inl ⟨by rfl, ?hy14⟩) (by assumption) ?_
    case hy14 => ((intro W hSw); (try dsimp only at hSw); go_simp; try (with_reducible rfl))
    simp only [List.set_cons_zero, List.set_cons_succ]
    refine take_put (i := 15) (oi := _) (v := ?_) 4 rfl rfl (by kernel_rfl) (by kernel_rfl) (by kernel_rfl) (fun _ _ _ h => h) (Or.inl ⟨by rfl, ?hy15⟩) (by assumption) ?_
    case hy15 => ((intro W hSw); (try dsimp only at hSw); go_simp; try (with_reducible rfl))
    simp only [List.set_cons_zero, List.set_cons_succ]
    refine wpAnyH_done (by kernel_rfl) ?_ _
    have HB := Lib.hid (D0.out.trans (s1.2.2.2.2.mono D0.out.size))
    go_wp2_with (fail)
    go_ret
    exact ⟨rfl, HB.out⟩
end Go.Proofs.Ytckgpocfcanokaa
