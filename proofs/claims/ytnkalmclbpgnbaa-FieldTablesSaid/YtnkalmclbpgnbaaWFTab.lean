/- The walk of 'FieldTables' (law 7): the tables are the document's. Premises: the contracts of field's Build and Mul. -/
import Derived.Test.YtnkalmclbpgnbaaFieldC
import Derived.Deep.QuietTactic
import Derived.BigQuiet
import Derived.Deep.Cut
import Derived.StillTailTactics
import Derived.Deep.RegionLaw
namespace Go.Proofs.Ytnkalmclbpgnbaa.fieldTables
open Go.RowKit

theorem tabN_length : tabN.length = 512 := by
  unfold tabN
  rw [List.length_append, List.length_append, expL, expFrom_length, List.length_map, List.length_range]
  rfl
theorem tab_exp {i : Nat} (h : i < 255) : tabN[i]? = some (gpow 3 i) := by
  have hl : expL.length = 255 := by rw [expL, expFrom_length]
  unfold tabN
  rw [List.append_assoc, List.getElem?_append_left (by omega), List.getElem?_eq_getElem (by omega), expL_get h]
theorem tab_last : tabN[255]? = some 1 := by kernel_rfl
theorem tab_log {a : Nat} (h : a < 256) : tabN[256 + a]? = some (logN a) := by
  have hl : (expL ++ [1]).length = 256 := by rw [List.length_append, expL, expFrom_length]; rfl
  unfold tabN
  rw [List.getElem?_append_right (by omega), hl, Nat.add_sub_cancel_left, List.getElem?_map, List.getElem?_range h]
  rfl
theorem Tab.cell {W : World} {B i n : Nat} (h : Tab W B) (hi : tabN[i]? = some n) : W.cell? ⟨B, i, none⟩ = some (.int .u8 (n : Int)) := by
  rw [Blk.cell h, List.getElem?_map, hi]
  rfl
theorem wpStill_pass {P : Program} {ops : Array Oper} {w : World} {Q : Act → Prop} {a : Act} {o : Oper} {rest : List Oper} (hw : Region.wanted o (yielded ops a.tmps) = false) : wpStill P ops w Q (o :: rest) a = wpStill P ops w Q rest (a.put o.dst undef) := by
  rw [wpStill, hw, if_neg (by decide)]
set_option maxRecDepth 100000 in
set_option maxHeartbeats 2000000 in
theorem walkC (HB : BuildC) (HM : MulC) (a0 : Int) (w : World) (k0 : (Lit.int .u8 a0).wf = true) :
    Calls Try.prog 3 #[.int .u8 a0] w fun e w' => e = .returned (.bool true) ∧ Below w.heap.size w w' := by
  have b0 := bounds_u8 k0
  obtain ⟨a, rfl⟩ : ∃ m : Nat, a0 = (m : Int) := ⟨a0.toNat, by omega⟩
  have ha : a < 256 := by omega
  clear k0
  go_enter Try.func3, Try.ntmps3
  go_wp2_with (fail)
  refine (HB w).mono ?_
  rintro e W0 ⟨B, rfl, hT, hb1⟩
  obtain ⟨i, hi⟩ : ∃ i, i = a % 255 := ⟨_, rfl⟩
  have hil : i < 255 := by omega
  have hiI : (i : Int) < 256 := by omega
  obtain ⟨p, hp⟩ : ∃ p, p = gpow 3 i := ⟨_, rfl⟩
  have HP : Hid (∀ V, Calls Try.prog 9 #[.int .u8 3, .int .i64 (i : Int)] V fun e V' => e = .returned (.int .u8 (p : Int)) ∧ V' = V) := Lib.hid fun V => by rw [hp]; exact (refPow_any 3 i V (by decide) (by omega)).mono fun e W' h => ⟨h.1, h.2.symm⟩
  have c1 : ∀ m, (W0.drewN m).cell? ⟨B, i, none⟩ = some (.int .u8 (p : Int)) := fun m => Tab.cell (hT.drewN m) (hp ▸ tab_exp hil)
  have c2 : ∀ m, (W0.drewN m).cell? ⟨B, 255, none⟩ = some (.int .u8 1) := fun m => Tab.cell (hT.drewN m) tab_last
  have c3 : ∀ m, (W0.drewN m).cell? ⟨B, 256, none⟩ = some (.int .u8 0) := fun m => Tab.cell (hT.drewN m) (tab_log (a := 0) (by decide))
  have c4 : ∀ m, (W0.drewN m).cell? ⟨B, 257, none⟩ = some (.int .u8 0) := fun m => Tab.cell (n := logN 1) (hT.drewN m) (tab_log (a := 1) (by decide))
  have D0 := Lib.hid hb1
  have HT := Lib.hid hT
  have eI : (a : Int) % 255 = (i : Int) := by omega
  clear hT hb1 hp hi
  go_upto_region 3 with (fail)
  rw [eI]
  clear eI
  go_quiet (first | (go_at_call 9; with_reducible exact Calls.quiet_of_same (HP.out _)))
  obtain ⟨W1, hW⟩ : ∃ W : World, W = W0.drewN nq := ⟨_, rfl⟩
  have T1 : Hid (Tab W1 B) := Lib.hid (by rw [hW]; exact HT.out.drewN nq)
  have D1 : Hid (Below w.heap.size w W1) := Lib.hid (by rw [hW]; exact below_drewN D0.out nq)
  rw [← hW]
  clear hW D0 HT c1 c2 c3 c4
  by_cases h0 : a = 0
  · have h0I : (a : Int) = 0 := by omega
    rw [h0I]
    clear h0 h0I
    go_upto_region 5 with (fail)
    refine wp_region_still_tail 27 (by kernel_rfl) (by kernel_rfl) ?_
    simp only [List.take_succ_cons, List.take_zero, List.drop_succ_cons, List.drop_zero]
    still_step
    still_step
    still_step
    iterate 22
      rw [wpStill_pass]
      rotate_left
      · kernel_rfl
      simp only [Act.put, List.setIfInBounds_toArray, List.set_cons_zero, List.set_cons_succ]
    still_step
    still_step
    refine wpStill_nil ?_
    change wpList _ _ _ _ _ W1.drew
    go_wp2_with (fail)
    refine (fieldAwake_any HB HM _).mono ?_
    rintro e w9 ⟨rfl, hb9⟩
    go_wp2_with (fail)
    go_ret
    exact ⟨rfl, D1.out.drew.trans (hb9.mono D1.out.size)⟩
  · have h0I : (a : Int) ≠ 0 := by omega
    obtain ⟨g, hg⟩ : ∃ g, g = logN a := ⟨_, rfl⟩
    have hgl : g < 255 := by rw [hg]; exact logN_lt ha
    have gI : (g : Int) < 255 := by omega
    have gJ : (g : Int) < 256 := by omega
    have aJ : (a : Int) < 256 := by omega
    have d1 : W1.cell? ⟨B, 256 + a, none⟩ = some (.int .u8 (g : Int)) := hg ▸ Tab.cell T1.out (tab_log ha)
    have d2 : W1.cell? ⟨B, g, none⟩ = some (.int .u8 (a : Int)) := by
      have h := Tab.cell T1.out (tab_exp hgl)
      rw [hg, exp_log ha h0] at h
      rw [hg]
      exact h
    clear hg
    go_upto_region 5 with (fail)
    go_still_tail 27, (by kernel_rfl)
    change wpList _ _ _ _ _ W1.drew
    go_wp2_with (fail)
    refine (fieldAwake_any HB HM _).mono ?_
    rintro e w9 ⟨rfl, hb9⟩
    go_wp2_with (fail)
    go_ret
    exact ⟨rfl, D1.out.drew.trans (hb9.mono D1.out.size)⟩
end Go.Proofs.Ytnkalmclbpgnbaa.fieldTables
