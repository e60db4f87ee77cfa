/- Part 18 of the words that the laws share: DtRdV. No condition of its own: each theorem says its own. -/
import Derived.Test.YtcicdbhffkpldaaPart6
import Derived.Test.YtcicdbhffkpldaaPart17
import Derived.Test.YtcicdbhffkpldaaPart12
import Derived.Test.YtcicdbhffkpldaaPart4
import Derived.Test.YtcicdbhffkpldaaPart16
import Derived.Deep.Cut

/- The developers' reader's two words: a short form, and some bytes, off the bytes that are left. Condition: the bytes lie in the elder world, fewer than 2^62. -/
namespace Go.Proofs.Ytcicdbhffkpldaa
open Go.RowKit

/-- What is left to read, and whether all was good, in their variables' blocks. -/
structure RV (w0 w : World) (X Z : Nat) (f : List UInt8) (g : Bool) : Prop where
  left : ∃ vf, Blk w X 25 [vf] ∧ Rd w0 vf f
  good : Blk w Z 4 [.bool g]
  low : Below w0.heap.size w0 w
  ge : w0.heap.size ≤ X ∧ w0.heap.size ≤ Z ∧ X ≠ Z
/-- What is read as a number, whether it was, what is left. -/
def sN (f : List UInt8) : Nat := (getS f).1
def sU (f : List UInt8) : Nat := (getS f).2.1
def sB (f : List UInt8) : Bool := decide ((getS f).2.2 = 0)
theorem getS_all (f : List UInt8) : sU f ≤ f.length ∧ sN f < 18446744073709551616 ∧ getS f = (sN f, sU f, (getS f).2.2) := by
  refine ⟨?_, ?_, rfl⟩
  · by_cases h : (getS f).2.2 = 0
    · have h1 : getS f = (sN f, sU f, 0) := by rw [← h]; rfl
      obtain ⟨r, e1, e2, _⟩ := getS_is h1
      have e3 := congrArg List.length e1
      rw [List.length_append, ← e2] at e3
      omega
    · unfold sU
      rcases getS_err h with e | e <;> rw [e] <;> exact Nat.zero_le _
  · by_cases h : (getS f).2.2 = 0
    · have h1 : getS f = (sN f, sU f, 0) := by rw [← h]; rfl
      obtain ⟨r, _, _, e3⟩ := getS_is h1
      exact e3
    · unfold sN
      rcases getS_err h with e | e <;> rw [e] <;> decide
theorem RV.chg {w0 w w' : World} {X Z : Nat} {f : List UInt8} {g : Bool} (h : RV w0 w X Z f g) {F : Nat → Prop} (hc : Chg F w w') (hF : ∀ k, F k → w0.heap.size ≤ k) (hX : ¬ F X) (hZ : ¬ F Z) : RV w0 w' X Z f g := by
  obtain ⟨vf, h1, h2⟩ := h.left
  exact ⟨⟨vf, hc.blk h1 hX, h2⟩, hc.blk h.good hZ, h.low.trans (hc.below hF h.low.size), h.ge⟩
theorem chg_sets {w : World} {X Z : Nat} {u v : Value} : Chg (fun k => k = X ∨ k = Z) w ((w.setCell ⟨Z, 0, none⟩ u).setCell ⟨X, 0, none⟩ v) :=
  (Chg.setCell (fun k => k = X ∨ k = Z) w Z 0 u (.inr rfl)).trans ((Chg.setCell (fun k => k = X ∨ k = Z) _ X 0 v (.inl rfl)).mono fun _k h => .inl h)
theorem RV.set {w0 w : World} {X Z : Nat} {f f' : List UInt8} {g g' : Bool} {v' : Value} (h : RV w0 w X Z f g) (hr : Rd w0 v' f') : RV w0 ((w.setCell ⟨Z, 0, none⟩ (.bool g')).setCell ⟨X, 0, none⟩ v') X Z f' g' := by
  obtain ⟨vf, h1, h2⟩ := h.left
  have hne := h.ge.2.2
  refine ⟨⟨v', (h1.other (p := ⟨Z, 0, none⟩) hne _).set 0 v', hr⟩, (h.good.set 0 (.bool g')).other (p := ⟨X, 0, none⟩) (Ne.symm hne) _, ?_, h.ge⟩
  exact (h.low.setCell (p := ⟨Z, 0, none⟩) h.ge.2.1 _).setCell (p := ⟨X, 0, none⟩) h.ge.1 _
set_option maxRecDepth 100000 in
set_option maxHeartbeats 2000000 in
theorem rshort_any (w0 w : World) (X Z : Nat) (f : List UInt8) (g : Bool) (h : RV w0 w X Z f g) :
    Calls Try.prog 39 #[.pointer (some ⟨X, 0, none⟩), .pointer (some ⟨Z, 0, none⟩)] w fun e w' => e = .returned (.int .u64 (sN f : Int)) ∧ RV w0 w' X Z (f.drop (sU f)) (g && sB f) ∧ Chg (fun k => k = X ∨ k = Z) w w' := by
  obtain ⟨i0, hi, hz0, hz1, hz2⟩ := info_parts info_u8
  obtain ⟨hu, _, _⟩ := getS_all f
  obtain ⟨vf, hX, hr⟩ := h.left
  obtain ⟨B, d, hsl, hrd⟩ := hr.lowK (P := Try.prog) 25 5 i0 Try.underlying25 hi hz1 .i64 (sU f) hu
  have hc := getShort_any vf f w (hr.below h.low)
  obtain ⟨A, c, hvf, _⟩ := hr.form
  subst hvf
  obtain ⟨n, hn⟩ : ∃ n, n = sN f := ⟨_, rfl⟩
  obtain ⟨u, huu⟩ : ∃ u, u = sU f := ⟨_, rfl⟩
  obtain ⟨er, her⟩ : ∃ e, e = (getS f).2.2 := ⟨_, rfl⟩
  have HS : Hid (sB f = decide (er = 0)) := Lib.hid (by rw [her]; rfl)
  have hc2 : Calls Try.prog 40 #[.slice A f.length c] w fun e w' => e = .returned (.tuple #[.int .u64 (n : Int), .int .i64 (u : Int), .int .i64 (er : Int)]) ∧ w = w' := by
    rw [hn, huu, her]
    exact hc
  rw [← huu] at hsl hrd
  rw [← hn, ← huu, HS.out]
  obtain ⟨m, hm⟩ : ∃ m, m = f.length := ⟨_, rfl⟩
  rw [← hm] at hX hr hsl hrd hc2
  have HC := Lib.hid hc2
  have HX := Lib.hid hX
  have HV := Lib.hid h
  have HSL := Lib.hid hsl
  have HRD := Lib.hid hrd
  have hne := h.ge.2.2
  have c0 : w.cell? ⟨X, 0, none⟩ = some (.slice A m c) := hX.cell 0
  have c1 : w.cell? ⟨Z, 0, none⟩ = some (.bool g) := h.good.cell 0
  have f1 : w.frozen? ⟨Z, 0, none⟩ = false := h.good.free 0
  have HW : Hid (∀ g', Blk (w.setCell ⟨Z, 0, none⟩ (.bool g')) X 25 [.slice A m c]) := Lib.hid fun g' => hX.other (p := ⟨Z, 0, none⟩) hne _
  clear hc hc2 hX h hsl hrd hn huu her hu hr hne hm
  go_enter Try.func39, Try.ntmps39
  go_wp2_with (fail)
  refine HC.out.mono ?_
  rintro e w' ⟨rfl, hw'⟩
  subst hw'
  cases g with
  | false =>
    go_upto_region 3 with (fail)
    obtain ⟨W1, hW1⟩ : ∃ V, V = w.setCell ⟨Z, 0, none⟩ (.bool false) := ⟨_, rfl⟩
    have K1 : Hid (Blk W1 X 25 [.slice A m c]) := Lib.hid (by rw [hW1]; exact HW.out _)
    have HE : Hid (RV w0 (W1.setCell ⟨X, 0, none⟩ (.slice B (m - u) d)) X Z (f.drop u) false ∧ Chg (fun k => k = X ∨ k = Z) w (W1.setCell ⟨X, 0, none⟩ (.slice B (m - u) d))) := Lib.hid (by rw [hW1]; exact ⟨HV.out.set HRD.out, chg_sets⟩)
    rw [← hW1]
    clear hW1 c0 c1 f1
    have c0 : W1.cell? ⟨X, 0, none⟩ = some (.slice A m c) := K1.out.cell 0
    have f0 : W1.frozen? ⟨X, 0, none⟩ = false := K1.out.free 0
    go_wp2_with ((with_reducible refine here_sl ?_); refine wpList_slice_fact rfl 25 5 Try.underlying25 (.tmp 17) (some (.tmp 18)) none rfl A m c _ _ none rfl rfl rfl HSL.out ?_)
    go_ret
    exact ⟨rfl, HE.out⟩
  | true =>
    by_cases z : er = 0
    · subst z
      go_upto_region 3 with (fail)
      obtain ⟨W1, hW1⟩ : ∃ V, V = w.setCell ⟨Z, 0, none⟩ (.bool true) := ⟨_, rfl⟩
      have K1 : Hid (Blk W1 X 25 [.slice A m c]) := Lib.hid (by rw [hW1]; exact HW.out _)
      have HE : Hid (RV w0 (W1.setCell ⟨X, 0, none⟩ (.slice B (m - u) d)) X Z (f.drop u) true ∧ Chg (fun k => k = X ∨ k = Z) w (W1.setCell ⟨X, 0, none⟩ (.slice B (m - u) d))) := Lib.hid (by rw [hW1]; exact ⟨HV.out.set HRD.out, chg_sets⟩)
      rw [← hW1]
      clear hW1 c0 c1 f1
      have c0 : W1.cell? ⟨X, 0, none⟩ = some (.slice A m c) := K1.out.cell 0
      have f0 : W1.frozen? ⟨X, 0, none⟩ = false := K1.out.free 0
      go_wp2_with ((with_reducible refine here_sl ?_); refine wpList_slice_fact rfl 25 5 Try.underlying25 (.tmp 17) (some (.tmp 18)) none rfl A m c _ _ none rfl rfl rfl HSL.out ?_)
      go_ret
      exact ⟨rfl, HE.out⟩
    · have zI : ((er : Int) == 0) = false := by rw [beq_eq_false_iff_ne]; omega
      have zN : (er == 0) = false := by rw [beq_eq_false_iff_ne]; omega
      have HZ := Lib.hid (decide_eq_false z)
      go_upto_region 3 with (fail)
      obtain ⟨W1, hW1⟩ : ∃ V, V = w.setCell ⟨Z, 0, none⟩ (.bool false) := ⟨_, rfl⟩
      have K1 : Hid (Blk W1 X 25 [.slice A m c]) := Lib.hid (by rw [hW1]; exact HW.out _)
      have HE : Hid (RV w0 (W1.setCell ⟨X, 0, none⟩ (.slice B (m - u) d)) X Z (f.drop u) false ∧ Chg (fun k => k = X ∨ k = Z) w (W1.setCell ⟨X, 0, none⟩ (.slice B (m - u) d))) := Lib.hid (by rw [hW1]; exact ⟨HV.out.set HRD.out, chg_sets⟩)
      rw [← hW1]
      clear hW1 c0 c1 f1
      have c0 : W1.cell? ⟨X, 0, none⟩ = some (.slice A m c) := K1.out.cell 0
      have f0 : W1.frozen? ⟨X, 0, none⟩ = false := K1.out.free 0
      go_wp2_with ((with_reducible refine here_sl ?_); refine wpList_slice_fact rfl 25 5 Try.underlying25 (.tmp 17) (some (.tmp 18)) none rfl A m c _ _ none rfl rfl rfl HSL.out ?_)
      go_ret
      rw [HZ.out]
      exact ⟨rfl, HE.out⟩
set_option maxRecDepth 100000 in
set_option maxHeartbeats 2000000 in
theorem rtake_any (w0 w : World) (X Z : Nat) (f : List UInt8) (g : Bool) (h : RV w0 w X Z f g) (n k : Nat) (hn : n < 18446744073709551616) (hl : f.length ≤ 1000000000) (hk : k = if n ≤ f.length then n else 0) :
    Calls Try.prog 41 #[.int .u64 (n : Int), .pointer (some ⟨X, 0, none⟩), .pointer (some ⟨Z, 0, none⟩)] w fun e w' => ∃ vt, e = .returned vt ∧ Rd w0 vt (f.take k) ∧ RV w0 w' X Z (f.drop k) (g && decide (n ≤ f.length)) ∧ Chg (fun j => j = X ∨ j = Z) w w' := by
  obtain ⟨i0, hi, hz0, hz1, hz2⟩ := info_parts info_u8
  obtain ⟨vf, hX, hr⟩ := h.left
  have hkl : k ≤ f.length := by rw [hk]; split <;> omega
  obtain ⟨B, d, hsl, hrd⟩ := hr.lowK (P := Try.prog) 25 5 i0 Try.underlying25 hi hz1 .u64 k hkl
  obtain ⟨B2, d2, hsl2, hrd2⟩ := hr.highK (P := Try.prog) 25 5 i0 Try.underlying25 hi hz1 .u64 k hkl
  obtain ⟨A, c, hvf, _⟩ := hr.form
  subst hvf
  obtain ⟨m, hm⟩ : ∃ m, m = f.length := ⟨_, rfl⟩
  rw [← hm] at hX hr hsl hrd hsl2 hkl hl hk ⊢
  have HX := Lib.hid hX
  have HV := Lib.hid h
  have HSL := Lib.hid hsl
  have HSL2 := Lib.hid hsl2
  have HRD := Lib.hid hrd
  have HRD2 := Lib.hid hrd2
  have hne := h.ge.2.2
  have c0 : w.cell? ⟨X, 0, none⟩ = some (.slice A m c) := hX.cell 0
  have fx : w.frozen? ⟨X, 0, none⟩ = false := hX.free 0
  have c1 : w.cell? ⟨Z, 0, none⟩ = some (.bool g) := h.good.cell 0
  have f1 : w.frozen? ⟨Z, 0, none⟩ = false := h.good.free 0
  have HW : Hid (∀ g', Blk (w.setCell ⟨Z, 0, none⟩ (.bool g')) X 25 [.slice A m c]) := Lib.hid fun g' => hX.other (p := ⟨Z, 0, none⟩) hne _
  have mw : IntKind.u64.wrap (m : Int) = (m : Int) := IntWalk.u64_in _ (by omega)
  by_cases hnm : n ≤ m
  · rw [if_pos hnm] at hk
    subst hk
    have d1 : decide ((m : Int) < (k : Int)) = false := decide_eq_false (by omega)
    have d2' : decide (m < k) = false := decide_eq_false (by omega)
    have HS : Hid (∀ v', Rd w0 v' (f.drop k) → RV w0 (w.setCell ⟨X, 0, none⟩ v') X Z (f.drop k) (g && decide (k ≤ m)) ∧ Chg (fun j => j = X ∨ j = Z) w (w.setCell ⟨X, 0, none⟩ v')) := Lib.hid fun v' hv' => ⟨by
      rw [decide_eq_true hnm, Bool.and_true]
      exact ⟨⟨v', HX.out.set 0 v', hv'⟩, HV.out.good.other (p := ⟨X, 0, none⟩) (Ne.symm hne) _, HV.out.low.setCell (p := ⟨X, 0, none⟩) HV.out.ge.1 _, HV.out.ge⟩, Chg.setCell _ w X 0 v' (.inl rfl)⟩
    clear hX h hsl hrd hsl2 hrd2 hr hne hm hnm hkl hl hn c1 f1
    go_enter Try.func41, Try.ntmps41
    go_upto_region 4 with ((with_reducible refine here_sl ?_); refine wpList_slice_fact rfl 25 5 Try.underlying25 (.tmp 11) none (some (.tmp 12)) rfl A m c _ none _ rfl rfl rfl HSL2.out ?_)
    go_wp2_with ((with_reducible refine here_sl ?_); refine wpList_slice_fact rfl 25 5 Try.underlying25 (.tmp 14) (some (.tmp 15)) none rfl A m c _ _ none rfl rfl rfl HSL.out ?_)
    go_ret
    exact ⟨_, rfl, HRD2.out, HS.out _ HRD.out⟩
  · rw [if_neg hnm] at hk
    subst hk
    have d1 : decide ((m : Int) < (n : Int)) = true := decide_eq_true (by omega)
    have d2' : decide (m < n) = true := decide_eq_true (by omega)
    have HS : Hid (∀ v', Rd w0 v' (f.drop 0) → RV w0 ((w.setCell ⟨Z, 0, none⟩ (.bool false)).setCell ⟨X, 0, none⟩ v') X Z (f.drop 0) (g && decide (n ≤ m)) ∧ Chg (fun j => j = X ∨ j = Z) w ((w.setCell ⟨Z, 0, none⟩ (.bool false)).setCell ⟨X, 0, none⟩ v')) := Lib.hid fun v' hv' => ⟨by
      rw [decide_eq_false hnm, Bool.and_false]
      exact HV.out.set hv', chg_sets⟩
    clear hX h hsl hrd hsl2 hrd2 hr hne hm hnm hkl hl hn
    go_enter Try.func41, Try.ntmps41
    go_upto_region 3 with (fail)
    obtain ⟨W1, hW1⟩ : ∃ V, V = w.setCell ⟨Z, 0, none⟩ (.bool false) := ⟨_, rfl⟩
    have K1 : Hid (Blk W1 X 25 [.slice A m c]) := Lib.hid (by rw [hW1]; exact HW.out _)
    rw [← hW1] at HS ⊢
    clear hW1 c0 c1 f1 fx
    have c0 : W1.cell? ⟨X, 0, none⟩ = some (.slice A m c) := K1.out.cell 0
    have fx : W1.frozen? ⟨X, 0, none⟩ = false := K1.out.free 0
    go_upto_region 4 with ((with_reducible refine here_sl ?_); refine wpList_slice_fact rfl 25 5 Try.underlying25 (.tmp 11) none (some (.tmp 12)) rfl A m c _ none _ rfl rfl rfl HSL2.out ?_)
    go_wp2_with ((with_reducible refine here_sl ?_); refine wpList_slice_fact rfl 25 5 Try.underlying25 (.tmp 14) (some (.tmp 15)) none rfl A m c _ _ none rfl rfl rfl HSL.out ?_)
    go_ret
    exact ⟨_, rfl, HRD2.out, HS.out _ HRD.out⟩
end Go.Proofs.Ytcicdbhffkpldaa
