/- The thirteenth reference's Same and Great. Conditions: rows of pieces. -/
import Derived.Test.YthhojjdccfcicaaPcEq
import Derived.Test.YthhojjdccfcicaaGen
import Derived.Test.YthhojjdccfcicaaQLoad
namespace Go.Proofs.Ythhojjdccfcicaa
open Go.RowKit

theorem ex_bool (P : Prop) : ∃ b : Bool, b = true ↔ P := by
  by_cases e : P
  · exact ⟨true, ⟨fun _ => e, fun _ => rfl⟩⟩
  · exact ⟨false, ⟨fun h => Bool.noConfusion h, fun h => absurd h e⟩⟩
theorem RsP.drewN {w : World} {v : Value} {ps : List Pc} (h : RsP w v ps) (m : Nat) : RsP (w.drewN m) v ps := h.below (below_drewN (Below.refl _ w) m)
theorem size_pc : (Try.prog.info? 27).map (·.size) = some 5 := by kernel_rfl
noncomputable def body_psa : Code := (((Try.f14.body.map loopsOf).getD [])[0]?).getD .skip
set_option maxRecDepth 100000 in
set_option maxHeartbeats 4000000 in
theorem psa_loop (c2 c3 c4 c6 c7 c8 c9 c10 c11 c12 c13 c14 c15 c16 c17 c18 c19 c20 c21 c22 c23 c24 c25 : Value) (A B : Option Addr) (ca cb : Nat) (ps qs : List Pc) (w : World) (hl : Hid (ps.length = qs.length)) (ha : Hid (RsP w (.slice A ps.length ca) ps)) (hb : Hid (RsP w (.slice B ps.length cb) qs)) {Q : Exit → Act → World → Prop}
    (HQ : Hid (∀ (u4 u11 u12 u13 u14 u15 u16 u17 u18 u19 u20 u21 u22 u23 u24 u25 y : Value) (m : Nat), Hid (ps = qs) → Q (.exit 0) ⟨List.toArray ((.slice A ps.length ca) :: (.slice B ps.length cb) :: c2 :: c3 :: u4 :: y :: c6 :: c7 :: c8 :: c9 :: c10 :: u11 :: u12 :: u13 :: u14 :: u15 :: u16 :: u17 :: u18 :: u19 :: u20 :: u21 :: u22 :: u23 :: u24 :: u25 :: []), []⟩ (w.drewN m)))
    (HE : Hid (∀ (u5 u11 u12 u13 u14 u15 u16 u17 u18 u19 u20 u21 u22 u23 u24 u25 : Value) (m : Nat), Hid (ps ≠ qs) → Q .ret ⟨List.toArray ((.slice A ps.length ca) :: (.slice B ps.length cb) :: c2 :: c3 :: (.bool false) :: u5 :: c6 :: c7 :: c8 :: c9 :: c10 :: u11 :: u12 :: u13 :: u14 :: u15 :: u16 :: u17 :: u18 :: u19 :: u20 :: u21 :: u22 :: u23 :: u24 :: u25 :: []), []⟩ (w.drewN m))) :
    (Code.loop body_psa).wp Try.prog Q ⟨List.toArray ((.slice A ps.length ca) :: (.slice B ps.length cb) :: c2 :: c3 :: c4 :: (.int .i64 0) :: c6 :: c7 :: c8 :: c9 :: c10 :: c11 :: c12 :: c13 :: c14 :: c15 :: c16 :: c17 :: c18 :: c19 :: c20 :: c21 :: c22 :: c23 :: c24 :: c25 :: []), []⟩ w := by
  unfold body_psa
  conv => arg 2; arg 1; whnf
  go_loopw [5] (fun x wx => ∃ (j m : Nat), x = .int .i64 (j : Int) ∧ j ≤ ps.length ∧ (∀ i, i < j → ps[i]? = qs[i]?) ∧ wx = w.drewN m) (fun x _ => ps.length - (intOf x).toNat)
  case atStart => exact ⟨0, 0, rfl, Nat.zero_le _, fun i h => by omega, rfl⟩
  case round =>
    obtain ⟨j, m, rfl, hj, heq, hwm⟩ := hrel
    have haw : RsP wr (.slice A ps.length ca) ps := hwm ▸ ha.out.drewN m
    have hbw : RsP wr (.slice B ps.length cb) qs := hwm ▸ hb.out.drewN m
    have HWM := Lib.hid hwm
    clear hwm
    have hml : ps.length ≤ maxLen := by
      obtain ⟨_, _, _, h⟩ := ha.out.form
      exact h
    unfold maxLen at hml
    have pI : (ps.length : Int) ≤ 9223372036854775807 := by omega
    have HEQ := Lib.hid heq
    by_cases hlt : j < ps.length
    · have jI : (j : Int) < ps.length := by omega
      have HLT := Lib.hid hlt
      have hlt2 : j < qs.length := by rw [← hl.out]; exact hlt
      obtain ⟨p, hp⟩ : ∃ p, ps[j]? = some p := ⟨_, List.getElem?_eq_getElem hlt⟩
      obtain ⟨q, hq⟩ : ∃ q, qs[j]? = some q := ⟨_, List.getElem?_eq_getElem hlt2⟩
      obtain ⟨g, o, rfl, hg, hr, hok⟩ := haw.at2 hp
      obtain ⟨g', o', rfl, hg', hr', hok'⟩ := hbw.at2 hq
      have HPQ : Hid (ps[j]? = some p ∧ qs[j]? = some q) := Lib.hid ⟨hp, hq⟩
      obtain ⟨b, hbb⟩ := ex_bool (p = q)
      have hEQ := run_equal_pc p q b hbb
      have HBB := Lib.hid hbb
      obtain ⟨xs, hxs⟩ : ∃ xs, xs = p.vs := ⟨_, rfl⟩
      obtain ⟨ys, hys⟩ : ∃ ys, ys = q.vs := ⟨_, rfl⟩
      rw [← hxs] at hEQ hr
      rw [← hys] at hEQ hr'
      have RX := Lib.hid (range_drewN hr)
      have RY := Lib.hid (range_drewN hr')
      have LX : Hid (xs.length = 5) := Lib.hid (by rw [hxs]; rfl)
      have LY : Hid (ys.length = 5) := Lib.hid (by rw [hys]; rfl)
      clear hr hr' hok hok' hp hq hbb hxs hys hlt hlt2 heq hj hg hg' hml haw hbw
      cases b with
      | true =>
        go_wp2_with (fail)
        refine wp_region_quiet_lit (by kernel_rfl) (by kernel_rfl) ?_
        repeat (go_big_quiet_step (fail))
        refine wpQuiet_load_mid rfl 20 rfl 27 (.tmp 19) rfl g (o + j * 5) rfl xs _ RX.out Try.underlying27 rfl (by rw [LX.out]; exact size_pc) ?_
        simp only [List.set_cons_zero, List.set_cons_succ]
        repeat (go_big_quiet_step (fail))
        refine wpQuiet_load_mid rfl 24 rfl 27 (.tmp 23) rfl g' (o' + j * 5) rfl ys _ RY.out Try.underlying27 rfl (by rw [LY.out]; exact size_pc) ?_
        simp only [List.set_cons_zero, List.set_cons_succ]
        repeat (go_big_quiet_step (fail))
        refine wpQuiet_nil ?_
        intro wq hwq
        obtain ⟨nq, rfl⟩ := hwq
        go_wp2_with (fail)
        have h1 := HLT.out
        refine ⟨⟨j + 1, m + nq, by go_num, h1, fun i hi => ?_, ?_⟩, by simp [intOf]; omega⟩
        · by_cases e : i = j
          · subst e
            rw [HPQ.out.1, HPQ.out.2, HBB.out.1 (by trivial)]
          · exact HEQ.out i (by omega)
        · rw [HWM.out, World.drewN_drewN]
      | false =>
        have HN : Hid (ps ≠ qs) := Lib.hid fun e => by
          have h1 := HPQ.out
          subst e
          have h2 : (false : Bool) = true := HBB.out.2 (Option.some.inj (h1.1.symm.trans h1.2))
          cases h2
        go_wp2_with (fail)
        refine wp_region_quiet_lit (by kernel_rfl) (by kernel_rfl) ?_
        repeat (go_big_quiet_step (fail))
        refine wpQuiet_load_mid rfl 20 rfl 27 (.tmp 19) rfl g (o + j * 5) rfl xs _ RX.out Try.underlying27 rfl (by rw [LX.out]; exact size_pc) ?_
        simp only [List.set_cons_zero, List.set_cons_succ]
        repeat (go_big_quiet_step (fail))
        refine wpQuiet_load_mid rfl 24 rfl 27 (.tmp 23) rfl g' (o' + j * 5) rfl ys _ RY.out Try.underlying27 rfl (by rw [LY.out]; exact size_pc) ?_
        simp only [List.set_cons_zero, List.set_cons_succ]
        repeat (go_big_quiet_step (fail))
        refine wpQuiet_nil ?_
        intro wq hwq
        obtain ⟨nq, rfl⟩ := hwq
        go_wp2_with (fail)
        have hw := HWM.out
        rw [hw, World.drewN_drewN]
        exact HE.out _ _ _ _ _ _ _ _ _ _ _ _ _ _ _ _ _ HN
    · have jI : ¬ (j : Int) < ps.length := by omega
      have HE2 : Hid (ps = qs) := Lib.hid (List.ext_getElem? fun i => by
        by_cases h : i < j
        · exact heq i h
        · have h2 := hl.out
          rw [List.getElem?_eq_none (by omega), List.getElem?_eq_none (by omega)])
      clear hlt heq hj hml haw hbw
      go_wp2_with (fail)
      have hw := HWM.out
      rw [hw]
      exact HQ.out _ _ _ _ _ _ _ _ _ _ _ _ _ _ _ _ _ _ HE2
end Go.Proofs.Ythhojjdccfcicaa
