/- The law NumOrder holds: sums of numbers are never too great and don't hang on the order, and to add something above 0 makes a wide number greater. Conditions: none. -/
import Derived.Test.YtenmdogalnhbjaaAwake
import Derived.Test.YtenmdogalnhbjaaAdd
import Derived.Test.YtenmdogalnhbjaaLess
import Derived.ProofKit
import Derived.OpenShut
import Derived.Carry
import Derived.Lib.SmallJoins
import Derived.Deep.RegionHeld3
import Derived.Deep.RegionWith
import Derived.Deep.DeepCutAuto
namespace Go.Proofs.Ytenmdogalnhbjaa.numOrder
open Go.ChangeShapes Go.WideShapes Go.ChangeAt Go.RowKit
open Go.Joins

theorem ad_comm (a b c d : Int) : adHi a b c d = adHi c d a b ∧ adLo a b c d = adLo c d a b ∧ adE a b c d = adE c d a b := by
  have e : b + d = d + b := Int.add_comm _ _
  have h : adH a b c d = adH c d a b := by unfold adH; rw [e, Int.add_comm a c]
  unfold adHi adLo adE adOk
  rw [h, e]
  exact ⟨rfl, rfl, rfl⟩
theorem ad_small (a b : Int) (ha : -9223372036854775808 ≤ a ∧ a ≤ 9223372036854775807) (hb : -9223372036854775808 ≤ b ∧ b ≤ 9223372036854775807) : adE (wideH a) (wideL a) (wideH b) (wideL b) = 0 := by
  have h : adOk (wideH a) (wideL a) (wideH b) (wideL b) = true := by
    unfold adOk adH wideH wideL
    rw [decide_eq_true_eq]
    split <;> split <;> split <;> omega
  unfold adE
  rw [if_pos h]
theorem ad_more (a p q : Int) (ha : -9223372036854775808 ≤ a ∧ a ≤ 9223372036854775807) (hq : 0 ≤ q ∧ q ≤ 18446744073709551615) (h : adE p q (wideH a) (wideL a) = 0) :
    ltW p q (adHi p q (wideH a) (wideL a)) (adLo p q (wideH a) (wideL a)) = decide (0 < a) ∧ ltW (adHi p q (wideH a) (wideL a)) (adLo p q (wideH a) (wideL a)) p q = decide (a < 0) := by
  have hok : adOk p q (wideH a) (wideL a) = true := by
    by_cases h1 : adOk p q (wideH a) (wideL a) = true
    · exact h1
    · unfold adE at h; rw [if_neg h1] at h; cases h
  unfold adHi adLo ltW
  rw [if_pos hok, if_pos hok]
  unfold adH wideH wideL
  by_cases h0 : a < 0
  · simp only [if_pos h0]
    by_cases hc : 18446744073709551616 ≤ q + (a + 18446744073709551616)
    · simp only [if_pos hc]
      refine ⟨?_, ?_⟩ <;> rw [Bool.eq_iff_iff] <;> split <;> simp only [decide_eq_true_eq] <;> omega
    · simp only [if_neg hc]
      refine ⟨?_, ?_⟩ <;> rw [Bool.eq_iff_iff] <;> split <;> simp only [decide_eq_true_eq] <;> omega
  · simp only [if_neg h0]
    by_cases hc : 18446744073709551616 ≤ q + a
    · simp only [if_pos hc]
      refine ⟨?_, ?_⟩ <;> rw [Bool.eq_iff_iff] <;> split <;> simp only [decide_eq_true_eq] <;> omega
    · simp only [if_neg hc]
      refine ⟨?_, ?_⟩ <;> rw [Bool.eq_iff_iff] <;> split <;> simp only [decide_eq_true_eq] <;> omega
theorem lt_wide (a b : Int) (ha : -9223372036854775808 ≤ a ∧ a ≤ 9223372036854775807) (hb : -9223372036854775808 ≤ b ∧ b ≤ 9223372036854775807) : ltW (wideH a) (wideL a) (wideH b) (wideL b) = decide (a < b) := by
  unfold ltW wideH wideL
  rw [Bool.eq_iff_iff]
  split <;> split <;> split <;> simp only [decide_eq_true_eq] <;> omega

theorem two_old {W w' : World} {x y : Value} {t : TypeId} (hb : Below (W.alloc (.cells #[x, y] t)).heap.size (W.alloc (.cells #[x, y] t)) w') :
    w'.cell? ⟨W.heap.size, 0, none⟩ = some x ∧ w'.cell? ⟨W.heap.size, 1, none⟩ = some y ∧ W.heap.size < w'.heap.size := by
  refine ⟨?_, ?_, by have := hb.size; simp at this; omega⟩
  · rw [hb.cell (p := ⟨W.heap.size, 0, none⟩) (by simp)]; simp
  · rw [hb.cell (p := ⟨W.heap.size, 1, none⟩) (by simp)]; simp
theorem two_keep {W w' : World} {x y : Value} {b : Nat} (hb : Below W.heap.size W w') (h : W.cell? ⟨b, 0, none⟩ = some x ∧ W.cell? ⟨b, 1, none⟩ = some y ∧ b < W.heap.size) :
    w'.cell? ⟨b, 0, none⟩ = some x ∧ w'.cell? ⟨b, 1, none⟩ = some y ∧ b < w'.heap.size :=
  ⟨(hb.cell (p := ⟨b, 0, none⟩) h.2.2).trans h.1, (hb.cell (p := ⟨b, 1, none⟩) h.2.2).trans h.2.1, Nat.lt_of_lt_of_le h.2.2 hb.size⟩
theorem two_alloc {W : World} {x y : Value} {b : Nat} (o : Obj) (h : W.cell? ⟨b, 0, none⟩ = some x ∧ W.cell? ⟨b, 1, none⟩ = some y ∧ b < W.heap.size) :
    (W.alloc o).cell? ⟨b, 0, none⟩ = some x ∧ (W.alloc o).cell? ⟨b, 1, none⟩ = some y ∧ b < (W.alloc o).heap.size :=
  two_keep ((Below.refl _ _).alloc (Nat.le_refl _) o) h

theorem old_cells {V w' : World} (h : Below V.heap.size V w') : (∀ b o, b < V.heap.size → w'.cell? ⟨b, o, none⟩ = V.cell? ⟨b, o, none⟩) ∧ (∀ b o, b < V.heap.size → w'.frozen? ⟨b, o, none⟩ = V.frozen? ⟨b, o, none⟩) :=
  ⟨fun b o hb => h.cell (p := ⟨b, o, none⟩) hb, fun b o hb => h.frozen (p := ⟨b, o, none⟩) hb⟩
def OrdCut (w : World) (p q zh zl ze : Int) (s t : Value) (wx : World) : Prop :=
  ∃ g : Nat, s = .pointer (some ⟨g, 0, none⟩) ∧ t = .int .i64 ze ∧ (wx.cell? ⟨g, 0, none⟩ = some (.int .i64 zh) ∧ wx.cell? ⟨g, 1, none⟩ = some (.int .u64 zl) ∧ g < wx.heap.size) ∧
    (wx.cell? ⟨w.heap.size, 0, none⟩ = some (.int .i64 p) ∧ wx.cell? ⟨w.heap.size, 1, none⟩ = some (.int .u64 q) ∧ w.heap.size < wx.heap.size) ∧ Below w.heap.size w wx
def At (w : World) (p q : Int) (V : World) : Prop := V.cell? ⟨w.heap.size, 0, none⟩ = some (.int .i64 p) ∧ V.cell? ⟨w.heap.size, 1, none⟩ = some (.int .u64 q) ∧ w.heap.size < V.heap.size
theorem At.drew {w V : World} {p q : Int} (h : At w p q V) : At w p q V.drew := h
theorem At.alloc {w V : World} {p q : Int} (h : At w p q V) (o : Obj) : At w p q (V.alloc o) := two_alloc o h

theorem un_drew {B : Nat} {V w' : World} (h : Below B V.drew w') : Below B V w' := ⟨h.os, h.tape, h.output, h.size, h.block⟩
theorem ord_new {w V : World} {p q zh zl ze : Int} {t : TypeId} (h : At w p q V) (hb : Below w.heap.size w V) :
    OrdCut w p q zh zl ze (.pointer (some ⟨V.heap.size, 0, none⟩)) (.int .i64 ze) (V.alloc (.cells #[.int .i64 zh, .int .u64 zl] t)) :=
  ⟨V.heap.size, rfl, rfl, ⟨by simp, by simp, by simp⟩, two_alloc _ h, hb.alloc hb.size _⟩
theorem two_stored {V : World} {g : Nat} {x y x' y' : Value} (h : V.cell? ⟨g, 0, none⟩ = some x' ∧ V.cell? ⟨g, 1, none⟩ = some y' ∧ g < V.heap.size) :
    ((V.setCell ⟨g, 0, none⟩ x).setCell ⟨g, 1, none⟩ y).cell? ⟨g, 0, none⟩ = some x ∧ ((V.setCell ⟨g, 0, none⟩ x).setCell ⟨g, 1, none⟩ y).cell? ⟨g, 1, none⟩ = some y := by
  have h1 : (V.setCell ⟨g, 0, none⟩ x).cell? ⟨g, 1, none⟩ = some y' := (World.cell?_setCell_other V _ _ x (fun e => by injection e with _ e; cases e)).trans h.2.1
  exact ⟨(World.cell?_setCell_other _ _ _ y (fun e => by injection e with _ e; cases e)).trans (World.cell?_setCell_same V _ x h.1), World.cell?_setCell_same _ _ y h1⟩
theorem ord_set {w V : World} {p q zh zl ze : Int} {g : Nat} {x' y' : Value} (h : At w p q V) (hb : Below w.heap.size w V) (hg : V.cell? ⟨g, 0, none⟩ = some x' ∧ V.cell? ⟨g, 1, none⟩ = some y' ∧ g < V.heap.size) (hne : w.heap.size < g) :
    OrdCut w p q zh zl ze (.pointer (some ⟨g, 0, none⟩)) (.int .i64 ze) ((V.setCell ⟨g, 0, none⟩ (.int .i64 zh)).setCell ⟨g, 1, none⟩ (.int .u64 zl)) := by
  have h2 := two_stored (x := .int .i64 zh) (y := .int .u64 zl) hg
  refine ⟨g, rfl, rfl, ⟨h2.1, h2.2, by simpa [World.setCell] using hg.2.2⟩, ⟨?_, ?_, by simpa [World.setCell] using h.2.2⟩, (hb.setCell (by show w.heap.size ≤ g; omega) _).setCell (by show w.heap.size ≤ g; omega) _⟩
  · rw [World.cell?_setCell_other _ _ _ _ (fun e => by injection e with e; omega), World.cell?_setCell_other _ _ _ _ (fun e => by injection e with e; omega)]; exact h.1
  · rw [World.cell?_setCell_other _ _ _ _ (fun e => by injection e with e; omega), World.cell?_setCell_other _ _ _ _ (fun e => by injection e with e; omega)]; exact h.2.1

set_option maxRecDepth 100000 in
set_option maxHeartbeats 1000000 in
theorem walk (a b p q : Int) (w : World) (ka : (Lit.int .i64 a).wf = true) (kb : (Lit.int .i64 b).wf = true) (kp : (Lit.int .i64 p).wf = true) (kq : (Lit.int .u64 q).wf = true) :
    Calls Try.prog 5 #[.int .i64 a, .int .i64 b, .agg #[.int .i64 p, .int .u64 q]] w fun e w' => e = .returned (.bool true) ∧ Below w.heap.size w w' := by
  have ha := Lib.hid (bounds_i64 ka)
  have hb := Lib.hid (bounds_i64 kb)
  have hp := Lib.hid (bounds_i64 kp)
  have hq := Lib.hid (bounds_u64 kq)
  clear ka kb kp kq
  have wa := Lib.hid (wide_in a ha.out)
  have wb := Lib.hid (wide_in b hb.out)
  obtain ⟨xh, hxh⟩ : ∃ x, adHi (wideH a) (wideL a) (wideH b) (wideL b) = x := ⟨_, rfl⟩
  obtain ⟨xl, hxl⟩ : ∃ x, adLo (wideH a) (wideL a) (wideH b) (wideL b) = x := ⟨_, rfl⟩
  have add1 := fun W => add_any _ _ _ _ W wa.out.1 wa.out.2 wb.out.1 wb.out.2
  have add2 := fun W => add_any _ _ _ _ W wb.out.1 wb.out.2 wa.out.1 wa.out.2
  rw [ad_small a b ha.out hb.out, hxh, hxl] at add1
  rw [ad_small b a hb.out ha.out, (ad_comm (wideH b) (wideL b) (wideH a) (wideL a)).1, (ad_comm (wideH b) (wideL b) (wideH a) (wideL a)).2.1, hxh, hxl] at add2
  have A1 := Lib.hid add1
  have A2 := Lib.hid add2
  obtain ⟨zh, hzh⟩ : ∃ x, adHi p q (wideH a) (wideL a) = x := ⟨_, rfl⟩
  obtain ⟨zl, hzl⟩ : ∃ x, adLo p q (wideH a) (wideL a) = x := ⟨_, rfl⟩
  obtain ⟨ze, hze⟩ : ∃ x, adE p q (wideH a) (wideL a) = x := ⟨_, rfl⟩
  have add3 := fun W => add_any _ _ _ _ W hp.out hq.out wa.out.1 wa.out.2
  have hmore := ad_more a p q ha.out hq.out
  rw [hzh, hzl, hze] at add3 hmore
  have A3 := Lib.hid add3
  have HM := Lib.hid hmore
  clear add1 add2 add3 hmore hxh hxl hzh hzl hze
  go_enter Try.func5, Try.ntmps5
  go_wp2_with (fail)
  refine (wide_any a _ ha.out).mono ?_
  rintro e w1 ⟨rfl, hb1⟩
  have p1 := two_old hb1
  go_wp2_with (fail)
  refine (wide_any b _ hb.out).mono ?_
  rintro e w2 ⟨rfl, hb2⟩
  have p2 := two_keep hb2 p1
  go_wp2_with (fail)
  refine (A1.out _).mono ?_
  rintro e w3 ⟨rfl, hb3⟩
  have p3 := two_keep hb3 p2
  have B3 : Below w.heap.size w w3 := ((((Below.refl w.heap.size w).alloc (Nat.le_refl _) _).trans (hb1.mono (by simp))).trans (hb2.mono (by omega))).trans (hb3.mono (by omega))
  go_wp2_with (fail)
  refine (wide_any b _ hb.out).mono ?_
  rintro e w4 ⟨rfl, hb4⟩
  have p4 := two_keep hb4 (two_alloc _ p3)
  have q4 := two_old hb4
  go_wp2_with (fail)
  refine (wide_any a _ ha.out).mono ?_
  rintro e w5 ⟨rfl, hb5⟩
  have p5 := two_keep hb5 p4
  have q5 := two_keep hb5 q4
  go_wp2_with (fail)
  refine (A2.out _).mono ?_
  rintro e w6 ⟨rfl, hb6⟩
  have p6 := two_keep hb6 p5
  have q6 := two_keep hb6 q5
  have hne : w.heap.size < w3.heap.size := p3.2.2
  have B6 : Below w.heap.size w w6 := (((B3.alloc B3.size _).trans (hb4.mono (by simp; omega))).trans (hb5.mono (by omega))).trans (hb6.mono (by omega))
  clear p1 p2 p3 p4 p5 q4 q5 hb1 hb2 hb3 hb4 hb5 hb6
  go_wp2_with (fail)
  obtain ⟨W, hW⟩ : ∃ W, W = w6.alloc (.cells #[.int .i64 xh, .int .u64 xl] 35) := ⟨_, rfl⟩
  rw [← hW]
  have pW : W.cell? ⟨w.heap.size, 0, none⟩ = some (.int .i64 p) ∧ W.cell? ⟨w.heap.size, 1, none⟩ = some (.int .u64 q) ∧ w.heap.size < W.heap.size := by rw [hW]; exact two_alloc _ p6
  have BW : Below w.heap.size w W := by rw [hW]; exact B6.alloc B6.size _
  clear hW p6 q6 hne B6 B3
  have aW : At w p q W := pW
  clear pW
  have C1 : Hid (∀ V : World, At w p q V → Calls Try.prog 21 #[.int .i64 a] V fun e w' => e = .returned (.agg #[.int .i64 (wideH a), .int .u64 (wideL a)]) ∧ Below V.heap.size V w' ∧ At w p q w') := fun V hV =>
    (wide_any a V ha.out).mono fun e w' ⟨he, hb⟩ => ⟨he, hb, two_keep hb hV⟩
  have C2 : Hid (∀ V : World, At w p q V → Calls Try.prog 15 #[.agg #[.int .i64 p, .int .u64 q], .agg #[.int .i64 (wideH a), .int .u64 (wideL a)]] V fun e w' =>
      e = .returned (.tuple #[.agg #[.int .i64 zh, .int .u64 zl], .int .i64 ze]) ∧ Below V.heap.size V w' ∧ At w p q w') := fun V hV =>
    (A3.out V).mono fun e w' ⟨he, hb⟩ => ⟨he, hb, two_keep hb hV⟩
  go_cut [11, 12] (fun s t wx => OrdCut w p q zh zl ze s t wx)
  case first =>
    have e0 := aW.1
    have e1 := aW.2.1
    have e2 := aW.2.2
    go_region_with (first
      | (go_at_call 21; refine (C1.out _ (by repeat (first | exact aW | apply At.drew | apply At.alloc))).mono ?_; rintro e w7 ⟨rfl, hb7, a7⟩; have s7 := hb7.size; (try simp only [World.size_alloc, World.size_drew] at s7); (try have l7 : W.heap.size < w7.heap.size := by omega); obtain ⟨hc7, hf7⟩ := old_cells hb7; have f0 := a7.1; have f1 := a7.2.1; have f2 := a7.2.2)
      | (go_at_call 15; refine (C2.out _ (by repeat (first | exact a7 | apply At.drew | apply At.alloc))).mono ?_; rintro e w8 ⟨rfl, hb8, a8⟩; have s8 := hb8.size; (try simp only [World.size_alloc] at s8); (try have l8 : w7.heap.size < w8.heap.size := by omega); (try have l9 : W.heap.size < w8.heap.size := by omega); obtain ⟨hc8, hf8⟩ := old_cells hb8; have g0 := a8.1; have g1 := a8.2.1; have g2 := a8.2.2))
    all_goals
      go_wp2_with (fail)
      go_meet
      have B8 : Below w.heap.size w w8 := by
        repeat (first | exact BW | refine Below.drew ?_ | (refine Below.alloc ?_ ?_ _) | (refine Below.trans ?_ (hb8.mono ?_)) | (refine Below.trans ?_ (hb7.mono ?_)) | go_size | (show w.heap.size ≤ _; omega))
      first
        | exact ord_new a8 B8
        | exact ord_set a8 B8 (two_old hb8) (by omega)
        | exact ord_set a8 B8 (two_keep hb8 (two_old hb7)) (by omega)
        | exact ord_set a8 B8 (two_keep hb8 (two_old (un_drew hb7))) (by omega)
        | exact ord_set a8 B8 (two_old (un_drew hb8)) (by omega)
  case rest =>
    obtain ⟨g, rfl, rfl, hg, hA, BX⟩ := hcut
    have LT := Lib.hid (lt_wide a b ha.out hb.out)
    have hg0 := Lib.hid hg
    have hA0 := Lib.hid hA
    have f0 := hg.1
    have f1 := hg.2.1
    have g0 := hA.1
    have g1 := hA.2.1
    clear hg hA
    by_cases hz : ze = 0
    · subst hz
      go_wp2_with (fail)
      refine (less_any _ _ _ _ _).mono ?_
      rintro e w9 ⟨rfl, hb9⟩
      rw [(HM.out (by trivial)).1]
      have hg1 := two_keep hb9 hg0.out
      have hA1 := two_keep hb9 hA0.out
      have f2 := hg1.1
      have f3 := hg1.2.1
      have g2 := hA1.1
      have g3 := hA1.2.1
      have BY := BX.trans (hb9.mono BX.size)
      clear hg1 hA1
      go_wp2_with (fail)
      refine (less_any _ _ _ _ _).mono ?_
      rintro e w10 ⟨rfl, hb10⟩
      rw [(HM.out (by trivial)).2]
      have BZ := BY.trans (hb10.mono BY.size)
      go_wp2_with (fail)
      refine (wide_any a _ ha.out).mono ?_
      rintro e v1 ⟨rfl, hv1⟩
      go_wp2_with (fail)
      refine (wide_any b _ hb.out).mono ?_
      rintro e v2 ⟨rfl, hv2⟩
      go_wp2_with (fail)
      refine (less_any _ _ _ _ _).mono ?_
      rintro e v3 ⟨rfl, hv3⟩
      rw [LT.out]
      go_wp2_with (fail)
      refine (awake_any _).mono ?_
      rintro e v4 ⟨rfl, hv4⟩
      go_wp2_with (fail)
      go_ret
      exact ⟨rfl, (((BZ.trans (hv1.mono BZ.size)).trans (hv2.mono (Nat.le_trans BZ.size hv1.size))).trans (hv3.mono (Nat.le_trans BZ.size (Nat.le_trans hv1.size hv2.size)))).trans (hv4.mono (Nat.le_trans BZ.size (Nat.le_trans hv1.size (Nat.le_trans hv2.size hv3.size))))⟩
    · have k0 : (ze == 0) = false := by simpa using hz
      clear hz
      go_wp2_with (fail)
      refine (wide_any a _ ha.out).mono ?_
      rintro e v1 ⟨rfl, hv1⟩
      go_wp2_with (fail)
      refine (wide_any b _ hb.out).mono ?_
      rintro e v2 ⟨rfl, hv2⟩
      go_wp2_with (fail)
      refine (less_any _ _ _ _ _).mono ?_
      rintro e v3 ⟨rfl, hv3⟩
      rw [LT.out]
      go_wp2_with (fail)
      refine (awake_any _).mono ?_
      rintro e v4 ⟨rfl, hv4⟩
      go_wp2_with (fail)
      go_ret
      exact ⟨rfl, (((BX.trans (hv1.mono BX.size)).trans (hv2.mono (Nat.le_trans BX.size hv1.size))).trans (hv3.mono (Nat.le_trans BX.size (Nat.le_trans hv1.size hv2.size)))).trans (hv4.mono (Nat.le_trans BX.size (Nat.le_trans hv1.size (Nat.le_trans hv2.size hv3.size))))⟩

theorem own : ownKnob Try.prog.godebug = none := by kernel_rfl
theorem cells2 : Try.prog.cellsOf 35 = 2 := by kernel_rfl

set_option maxRecDepth 100000 in
theorem lifted (os : Os) (started : os.Started) (H : Type) (enc : TypeId × Value → H) :
    ReturnsInHanded {} Try.checked os 5 .any (Rows.numOrderSpec.pre6 enc Try.prog Try.f5 Rows.numOrderRow.domain false) (Rows.numOrderSpec.post enc Try.prog Try.f5 false true false false) := by
  refine returnsInHanded_of_change (C := Try.checked) own started (by kernel_rfl) Try.func5
    (ChangeSpec.witness6 (enc := enc) (C := Try.checked) false ⟨#[], #[.int .i64 0, .int .i64 0, .agg #[.int .i64 0, .int .u64 0]], []⟩ 8 (by kernel_rfl) (by kernel_rfl) (by kernel_rfl) (by kernel_rfl)) ?_
  intro W base args ds gs before hval0 hW hcnd _
  have hval : ∀ (j : Nat) t v, Try.f5.params[j]? = some t → args[j]? = some v → Value.okWide Try.prog W .any base t v := hval0
  have hW' := hW
  obtain ⟨p, q, hA0, hV, rfl, hfz, hnd⟩ := hW
  have hA : DataW.TrodAll enc Try.prog W 0 (fun _ => true) true Try.f5.params.toList args.toList ds p := hA0
  rw [Try.params5] at hA hval
  obtain ⟨v0, vs0, dd0, ds0, p0, q0, hargs, rfl, rfl, h0, r0⟩ := trodAll_cons hA
  obtain ⟨v1, vs1, dd1, ds1, p1, q1, rfl, rfl, rfl, h1, r1⟩ := trodAll_cons r0
  obtain ⟨v2, vs2, dd2, ds2, p2, q2, rfl, rfl, rfl, h2, r2⟩ := trodAll_cons r1
  obtain ⟨rfl, rfl, rfl⟩ := trodAll_nil r2
  obtain rfl : args = #[v0, v1, v2] := by cases args; simp_all
  obtain ⟨rfl, rfl⟩ := trodVars_none hV
  obtain ⟨a0, rfl, rfl, rfl, k0⟩ := open_int Try.underlying2 (hval 0 2 v0 rfl rfl) h0
  obtain ⟨a1, rfl, rfl, rfl, k1⟩ := open_int Try.underlying2 (hval 1 2 v1 rfl rfl) h1
  obtain ⟨c2, d2, y2, z2, m2, rfl, rfl, rfl, hy2, hz2⟩ := open_agg2 Try.underlying35 (by kernel_rfl) cells2 (hval 2 35 v2 rfl rfl) h2
  obtain ⟨a2, e2, rfl, k2⟩ := DataW.trod_int Try.underlying2 hy2
  obtain ⟨b2, f2, rfl, l2⟩ := DataW.trod_int Try.underlying23 hz2
  simp at e2 f2
  subst e2 f2
  clear hA0 hval0
  refine (walk a0 a1 a2 b2 W k0 k1 k2 l2).mono fun e W' ⟨he, bel⟩ => ?_
  subst he
  exact ⟨_, rfl, _, _, _, [], _, [], hW', trodAll_mk1 (shut_bool Try.underlying4 _), (trodAll_cons_mk (shut_int Try.underlying2 k0) (trodAll_cons_mk (shut_int Try.underlying2 k1) (trodAll_cons_mk (shut_agg2 (y0 := (.lit (.int .i64 a2), [])) (y1 := (.lit (.int .u64 b2), [])) Try.underlying35 (by kernel_rfl) cells2 ⟨1, Go.ChangeShapes.trod_int_mk 0 Try.underlying2 k2⟩ ⟨1, Go.ChangeShapes.trod_int_mk 0 Try.underlying23 l2⟩) trodAll_mk0))), rfl, bel.frame _, fun h => by cases h⟩

theorem over : Rows.numOrderRow.holds Try.pinned (OpenSpec.ofChange Rows.numOrderSpec) :=
  OpenClaim.holds_of_wide 5 Try.f5 rfl rfl rfl rfl rfl rfl rfl ⟨rfl, rfl, rfl, rfl, rfl⟩ rfl rfl rfl rfl rfl (by kernel_rfl) Try.func5 (by kernel_rfl)
    (of_decide_eq_true (by kernel_rfl)) (by unfold Func.isWrapper; first | (rw [if_pos (by decide +kernel)]; kernel_rfl) | (rw [if_neg (by decide +kernel)]; exact ⟨rfl, rfl⟩))
    (fun os started H enc _ => lifted os started H enc)

theorem proved : Rows.NumOrderSaid := over
#print axioms proved
end Go.Proofs.Ytenmdogalnhbjaa.numOrder
