/- The contract of the seventh reference's Eval: the value of a polynomial. Conditions: at most 1000 coefficients. -/
import Derived.Test.YtnkalmclbpgnbaaFRefM
import Derived.Test.YtnkalmclbpgnbaaKept
import Derived.Deep.RegionHeld
import Derived.Deep.MidRow
namespace Go.Proofs.Ytnkalmclbpgnbaa
open Go.RowKit

/-- The value of a polynomial's first i places. -/
def geP (l : List UInt8) (x : Nat) : Nat → Nat
  | 0 => 0
  | i + 1 => geP l x i ^^^ gmul ((l.getD i 0).toNat) (gpow x i)
def geval (l : List UInt8) (x : Nat) : Nat := geP l x l.length
theorem geP_lt (l : List UInt8) {x : Nat} (hx : x < 256) : ∀ i, geP l x i < 256
  | 0 => by show 0 < 256; decide
  | i + 1 => Nat.xor_lt_two_pow (n := 8) (geP_lt l hx i) (gmul_lt (UInt8.toNat_lt _) (gpow_lt hx i))
theorem xorB_nat (a b : Nat) (ha : a < 256) (hb : b < 256) : bits .xor .u8 (a : Int) (b : Int) = ((a ^^^ b : Nat) : Int) := u8_xor_nat a b ha hb
def FevRel (l : List UInt8) (x : Nat) (w : World) (s v : Value) (W : World) : Prop := ∃ i m : Nat, v = .int .i64 (i : Int) ∧ i ≤ l.length ∧ s = .int .u8 (geP l x i : Nat) ∧ W = w.drewN m
set_option maxRecDepth 100000 in
set_option maxHeartbeats 2000000 in
theorem refEvalG_any (v : Value) (l : List UInt8) (x : Nat) (w : World) (hr : Rd w v l) (hx : x < 256) (hl : l.length ≤ 1000) :
    Calls Try.prog 15 #[v, .int .u8 (x : Int)] w fun e w' => e = .returned (.int .u8 (geval l x : Nat)) ∧ ∃ m, w' = w.drewN m := by
  obtain ⟨A, c, rfl, hc1, hc2, hA⟩ := hr.form
  have HA := Lib.hid hA
  unfold maxLen at hc2
  have lI : (l.length : Int) ≤ 1000 := by omega
  clear hr hA
  go_enter Try.func15, Try.ntmps15
  go_wp2_with (fail)
  go_loopw [5, 6] (fun s v wx => FevRel l x w s v wx) (fun _ v _ => l.length - (intOf v).toNat)
  case atStart => exact ⟨0, 0, rfl, by omega, rfl, rfl⟩
  case round =>
    obtain ⟨i, m0, rfl, hi, rfl, rfl⟩ := hrel
    by_cases hlt : i < l.length
    · have hI : (i : Int) < l.length := by omega
      obtain ⟨b, off, rfl, hb1, hb3⟩ := HA.out (by omega)
      obtain ⟨s, hs⟩ : ∃ s, s = geP l x i := ⟨_, rfl⟩
      have hsl : s < 256 := by rw [hs]; exact geP_lt l hx i
      have HS := Lib.hid hs
      obtain ⟨y, hy⟩ : ∃ y : Nat, y = (l[i]).toNat := ⟨_, rfl⟩
      have hyl : y < 256 := by rw [hy]; exact UInt8.toNat_lt _
      have hcell : ∀ m, (w.drewN m).cell? ⟨b, off + i, none⟩ = some (.int .u8 (y : Int)) := fun m => by rw [hy]; exact hb3 i hlt
      have HN : Hid (geP l x (i + 1) = s ^^^ gmul y (gpow x i)) := Lib.hid (by
        show geP l x i ^^^ gmul ((l.getD i 0).toNat) (gpow x i) = _
        rw [List.getD, List.getElem?_eq_getElem hlt, ← hs, hy]
        rfl)
      have HP := fun V => refPow_any x i V hx (by omega)
      have HM := fun V => refMulG_any y (gpow x i) V hyl (gpow_lt hx i)
      have hxr := xorB_nat s (gmul y (gpow x i)) hsl (gmul_lt hyl (gpow_lt hx i))
      obtain ⟨q, hq⟩ : ∃ q, q = gpow x i := ⟨_, rfl⟩
      rw [← hs]
      rw [← hq] at HP HM hxr HN
      obtain ⟨z, hz⟩ : ∃ z, z = gmul y q := ⟨_, rfl⟩
      rw [← hz] at HM hxr HN
      clear hb3 hy hs hq hz
      go_wp2_with (fail)
      refine wp_region_held_drew (S := (fun V => ∃ m, V = w.drewN m)) (by kernel_rfl) ⟨m0 + 1, rfl⟩ (fun hHeld => ?_)
      refine take_put (i := 0) (oi := _) (v := ?_) 13 rfl rfl (by kernel_rfl) (by kernel_rfl) (by kernel_rfl) (fun _ _ _ h => h) (Or.inl ⟨by rfl, ?hy0⟩) (by assumption) ?_
      case hy0 => ((intro W hSw); (obtain ⟨m, rfl⟩ := hSw); go_simp; try (with_reducible rfl))
      simp only [List.set_cons_zero, List.set_cons_succ]
      refine take_put (i := 1) (oi := _) (v := ?_) 14 rfl rfl (by kernel_rfl) (by kernel_rfl) (by kernel_rfl) (fun _ _ _ h => h) (Or.inl ⟨by rfl, ?hy1⟩) (by assumption) ?_
      case hy1 => ((intro W hSw); (obtain ⟨m, rfl⟩ := hSw); go_simp; try (with_reducible rfl))
      simp only [List.set_cons_zero, List.set_cons_succ]
      refine take_put (i := 2) (oi := _) (v := ?_) 15 rfl rfl (by kernel_rfl) (by kernel_rfl) (by kernel_rfl) (fun _ _ _ h => h) (Or.inl ⟨by rfl, ?hy2⟩) (by assumption) ?_
      case hy2 => ((intro W hSw); (obtain ⟨m, rfl⟩ := hSw); go_simp; try (with_reducible rfl))
      simp only [List.set_cons_zero, List.set_cons_succ]
      refine take_put (i := 3) (oi := _) (v := ?_) 16 rfl rfl (by kernel_rfl) (by kernel_rfl) (by kernel_rfl) (fun _ _ _ h => h) (Or.inl ⟨by rfl, ?hy3⟩) (by assumption) ?_
      case hy3 => ((intro W hSw); (obtain ⟨m, rfl⟩ := hSw); go_simp; try (with_reducible rfl))
      simp only [List.set_cons_zero, List.set_cons_succ]
      refine take_put (i := 4) (oi := _) (v := ?_) 17 rfl rfl (by kernel_rfl) (by kernel_rfl) (by kernel_rfl) (fun _ _ _ h => h) (Or.inl ⟨by rfl, ?hy4⟩) (by assumption) ?_
      case hy4 => ((intro W hSw); (obtain ⟨m, rfl⟩ := hSw); go_simp; try (with_reducible rfl))
      simp only [List.set_cons_zero, List.set_cons_succ]
      refine take_put (i := 5) (oi := _) (v := ?_) 18 rfl rfl (by kernel_rfl) (by kernel_rfl) (by kernel_rfl) (fun _ _ _ h => h) (Or.inl ⟨by rfl, ?hy5⟩) (by assumption) ?_
      case hy5 => ((intro W hSw); (obtain ⟨m, rfl⟩ := hSw); go_simp; try (with_reducible rfl))
      simp only [List.set_cons_zero, List.set_cons_succ]
      refine take_put (i := 6) (oi := _) (v := ?_) 19 rfl rfl (by kernel_rfl) (by kernel_rfl) (by kernel_rfl) (fun _ _ _ h => h) (Or.inl ⟨by rfl, ?hy6⟩) (by assumption) ?_
      case hy6 => ((intro W hSw); (obtain ⟨m, rfl⟩ := hSw); go_simp; try (with_reducible rfl))
      simp only [List.set_cons_zero, List.set_cons_succ]
      refine wpAnyH_ready (rs := [7]) (by kernel_rfl) (by simp) ?_
      refine AllReadyH.cons (o := _) rfl (fun K hK => ?_) AllReadyH.nil
      go_simp
      refine (HP _).mono ?_
      rintro e V1 ⟨rfl, rfl⟩
      refine hK.out _ _ hHeld (fun hHeld => ?_)
      clear hK K
      try simp only [Act.put, List.setIfInBounds_toArray, List.set_cons_zero, List.set_cons_succ]
      refine wpAnyH_ready (rs := [8]) (by kernel_rfl) (by simp) ?_
      refine AllReadyH.cons (o := _) rfl (fun K hK => ?_) AllReadyH.nil
      go_simp
      refine (HM _).mono ?_
      rintro e V2 ⟨rfl, rfl⟩
      refine hK.out _ _ hHeld (fun hHeld => ?_)
      clear hK K
      try simp only [Act.put, List.setIfInBounds_toArray, List.set_cons_zero, List.set_cons_succ]
      refine take_put (i := 9) (oi := _) (v := ?_) 22 rfl rfl (by kernel_rfl) (by kernel_rfl) (by kernel_rfl) (fun _ _ _ h => h) (Or.inl ⟨by rfl, ?hy9⟩) (by assumption) ?_
      case hy9 => ((intro W hSw); (obtain ⟨m, rfl⟩ := hSw); go_simp; try (with_reducible rfl))
      simp only [List.set_cons_zero, List.set_cons_succ]
      refine take_put (i := 10) (oi := _) (v := ?_) 5 rfl rfl (by kernel_rfl) (by kernel_rfl) (by kernel_rfl) (fun _ _ _ h => h) (Or.inl ⟨by rfl, ?hy10⟩) (by assumption) ?_
      case hy10 => ((intro W hSw); (obtain ⟨m, rfl⟩ := hSw); go_simp; try (with_reducible rfl))
      simp only [List.set_cons_zero, List.set_cons_succ]
      refine wpAnyH_done (by kernel_rfl) ?_ _
      obtain ⟨mm, hmm⟩ := hHeld
      rw [hmm]
      go_wp2_with (fail)
      refine ⟨⟨i + 1, mm, by go_num, by omega, by rw [HN.out], rfl⟩, by simp [intOf]; omega⟩
    · obtain rfl : i = l.length := by omega
      go_wp2_with (fail)
      go_ret
      exact ⟨rfl, m0, rfl⟩
end Go.Proofs.Ytnkalmclbpgnbaa
