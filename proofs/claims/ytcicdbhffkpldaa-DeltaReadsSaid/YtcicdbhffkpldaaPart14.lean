/- Part 14 of the words that the laws share: PcSame, PcGre. No condition of its own: each theorem says its own. -/
import Derived.Test.YtcicdbhffkpldaaPart13
import Derived.Test.YtcicdbhffkpldaaPart9

/- The thirteenth reference's Same and Great. Conditions: rows of pieces. -/
namespace Go.Proofs.Ytcicdbhffkpldaa
open Go.RowKit

theorem ex_bool (P : Prop) : ∃ b : Bool, b = true ↔ P := by
  by_cases e : P
  · exact ⟨true, ⟨fun _ => e, fun _ => rfl⟩⟩
  · exact ⟨false, ⟨fun h => Bool.noConfusion h, fun h => absurd h e⟩⟩
theorem RsP.drewN {w : World} {v : Value} {ps : List Pc} (h : RsP w v ps) (m : Nat) : RsP (w.drewN m) v ps := h.below (below_drewN (Below.refl _ w) m)
theorem size_pc : (Try.prog.info? 46).map (·.size) = some 5 := by kernel_rfl
noncomputable def body_psa : Code := (((Try.f16.body.map loopsOf).getD [])[0]?).getD .skip
set_option maxRecDepth 100000 in
set_option maxHeartbeats 4000000 in
theorem psa_loop (c2 c3 c4 c6 c7 c8 c9 c10 c11 c12 c13 c14 c15 c16 c17 c18 c19 c20 c21 c22 c23 c24 c25 : Value) (A B : Option Addr) (ca cb : Nat) (ps qs : List Pc) (w : World) (hl : Hid (ps.length = qs.length)) (ha : Hid (RsP w (.slice A ps.length ca) ps)) (hb : Hid (RsP w (.slice B ps.length cb) qs)) {Q : Exit → Act → World → Prop}
    (HQ : Hid (∀ (u4 u11 u12 u13 u14 u15 u16 u17 u18 u19 u20 u21 u22 u23 u24 u25 y : Value) (m : Nat), Hid (ps = qs) → Q (.exit 0) ⟨List.toArray ((.slice A ps.length ca) :: (.slice B ps.length cb) :: c2 :: c3 :: u4 :: y :: c6 :: c7 :: c8 :: c9 :: c10 :: u11 :: u12 :: u13 :: u14 :: u15 :: u16 :: u17 :: u18 :: u19 :: u20 :: u21 :: u22 :: u23 :: u24 :: u25 :: []), []⟩ (w.drewN m)))
    (HE : Hid (∀ (u5 u11 u12 u13 u14 u15 u16 u17 u18 u19 u20 u21 u22 u23 u24 u25 : Value) (m : Nat), Hid (ps ≠ qs) → Q .ret ⟨List.toArray ((.slice A ps.length ca) :: (.slice B ps.length cb) :: c2 :: c3 :: (.bool false) :: u5 :: c6 :: c7 :: c8 :: c9 :: c10 :: u11 :: u12 :: u13 :: u14 :: u15 :: u16 :: u17 :: u18 :: u19 :: u20 :: u21 :: u22 :: u23 :: u24 :: u25 :: []), []⟩ (w.drewN m))) :
    (Code.loop body_psa).wp Try.prog Q ⟨List.toArray ((.slice A ps.length ca) :: (.slice B ps.length cb) :: c2 :: c3 :: c4 :: (.int .i64 0) :: c6 :: c7 :: c8 :: c9 :: c10 :: c11 :: c12 :: c13 :: c14 :: c15 :: c16 :: c17 :: c18 :: c19 :: c20 :: c21 :: c22 :: c23 :: c24 :: c25 :: []), []⟩ w := by
  unfold body_psa
  conv => arg 2; arg 1; whnf
  go_loopw [5] (fun x wx => ∃ (j m : Nat), x = .int .i64 (j : Int) ∧ j ≤ ps.length ∧ (∀ i, i < j → ps[i]? = qs[i]?) ∧ wx = w.drewN m) (fun x _ => ps.length - (intOf x).toNat)
  case atStart => exact ⟨0, 0, rfl, Nat.zero_le _, fun i h => by omega, rfl⟩
  case round =>
    obtain ⟨j, m, rfl, hj, heq, hwm⟩ := hrel
    have haw : RsP wr (.slice A ps.length ca) ps := hwm ▸ ha.out.drewN m
    have hbw : RsP wr (.slice B ps.length cb) qs := hwm ▸ hb.out.drewN m
    have HWM := Lib.hid hwm
    clear hwm
    have hml : ps.length ≤ maxLen := by
      obtain ⟨_, _, _, h⟩ := ha.out.form
      exact h
    unfold maxLen at hml
    have pI : (ps.length : Int) ≤ 9223372036854775807 := by omega
    have HEQ := Lib.hid heq
    by_cases hlt : j < ps.length
    · have jI : (j : Int) < ps.length := by omega
      have HLT := Lib.hid hlt
      have hlt2 : j < qs.length := by rw [← hl.out]; exact hlt
      obtain ⟨p, hp⟩ : ∃ p, ps[j]? = some p := ⟨_, List.getElem?_eq_getElem hlt⟩
      obtain ⟨q, hq⟩ : ∃ q, qs[j]? = some q := ⟨_, List.getElem?_eq_getElem hlt2⟩
      obtain ⟨g, o, rfl, hg, hr, hok⟩ := haw.at2 hp
      obtain ⟨g', o', rfl, hg', hr', hok'⟩ := hbw.at2 hq
      have HPQ : Hid (ps[j]? = some p ∧ qs[j]? = some q) := Lib.hid ⟨hp, hq⟩
      obtain ⟨b, hbb⟩ := ex_bool (p = q)
      have hEQ := run_equal_pc p q b hbb
      have HBB := Lib.hid hbb
      obtain ⟨xs, hxs⟩ : ∃ xs, xs = p.vs := ⟨_, rfl⟩
      obtain ⟨ys, hys⟩ : ∃ ys, ys = q.vs := ⟨_, rfl⟩
      rw [← hxs] at hEQ hr
      rw [← hys] at hEQ hr'
      have RX := Lib.hid (range_drewN hr)
      have RY := Lib.hid (range_drewN hr')
      have LX : Hid (xs.length = 5) := Lib.hid (by rw [hxs]; rfl)
      have LY : Hid (ys.length = 5) := Lib.hid (by rw [hys]; rfl)
      clear hr hr' hok hok' hp hq hbb hxs hys hlt hlt2 heq hj hg hg' hml haw hbw
      cases b with
      | true =>
        go_wp2_with (fail)
        refine wp_region_quiet_lit (by kernel_rfl) (by kernel_rfl) ?_
        repeat (go_big_quiet_step (fail))
        refine wpQuiet_load_mid rfl 20 rfl 46 (.tmp 19) rfl g (o + j * 5) rfl xs _ RX.out Try.underlying46 rfl (by rw [LX.out]; exact size_pc) ?_
        simp only [List.set_cons_zero, List.set_cons_succ]
        repeat (go_big_quiet_step (fail))
        refine wpQuiet_load_mid rfl 24 rfl 46 (.tmp 23) rfl g' (o' + j * 5) rfl ys _ RY.out Try.underlying46 rfl (by rw [LY.out]; exact size_pc) ?_
        simp only [List.set_cons_zero, List.set_cons_succ]
        repeat (go_big_quiet_step (fail))
        refine wpQuiet_nil ?_
        intro wq hwq
        obtain ⟨nq, rfl⟩ := hwq
        go_wp2_with (fail)
        have h1 := HLT.out
        refine ⟨⟨j + 1, m + nq, by go_num, h1, fun i hi => ?_, ?_⟩, by simp [intOf]; omega⟩
        · by_cases e : i = j
          · subst e
            rw [HPQ.out.1, HPQ.out.2, HBB.out.1 (by trivial)]
          · exact HEQ.out i (by omega)
        · rw [HWM.out, World.drewN_drewN]
      | false =>
        have HN : Hid (ps ≠ qs) := Lib.hid fun e => by
          have h1 := HPQ.out
          subst e
          have h2 : (false : Bool) = true := HBB.out.2 (Option.some.inj (h1.1.symm.trans h1.2))
          cases h2
        go_wp2_with (fail)
        refine wp_region_quiet_lit (by kernel_rfl) (by kernel_rfl) ?_
        repeat (go_big_quiet_step (fail))
        refine wpQuiet_load_mid rfl 20 rfl 46 (.tmp 19) rfl g (o + j * 5) rfl xs _ RX.out Try.underlying46 rfl (by rw [LX.out]; exact size_pc) ?_
        simp only [List.set_cons_zero, List.set_cons_succ]
        repeat (go_big_quiet_step (fail))
        refine wpQuiet_load_mid rfl 24 rfl 46 (.tmp 23) rfl g' (o' + j * 5) rfl ys _ RY.out Try.underlying46 rfl (by rw [LY.out]; exact size_pc) ?_
        simp only [List.set_cons_zero, List.set_cons_succ]
        repeat (go_big_quiet_step (fail))
        refine wpQuiet_nil ?_
        intro wq hwq
        obtain ⟨nq, rfl⟩ := hwq
        go_wp2_with (fail)
        have hw := HWM.out
        rw [hw, World.drewN_drewN]
        exact HE.out _ _ _ _ _ _ _ _ _ _ _ _ _ _ _ _ _ HN
    · have jI : ¬ (j : Int) < ps.length := by omega
      have HE2 : Hid (ps = qs) := Lib.hid (List.ext_getElem? fun i => by
        by_cases h : i < j
        · exact heq i h
        · have h2 := hl.out
          rw [List.getElem?_eq_none (by omega), List.getElem?_eq_none (by omega)])
      clear hlt heq hj hml haw hbw
      go_wp2_with (fail)
      have hw := HWM.out
      rw [hw]
      exact HQ.out _ _ _ _ _ _ _ _ _ _ _ _ _ _ _ _ _ _ HE2
end Go.Proofs.Ytcicdbhffkpldaa

/- The thirteenth reference's Same and Great, whole. Conditions: rows of pieces. -/
namespace Go.Proofs.Ytcicdbhffkpldaa
open Go.RowKit

set_option maxRecDepth 100000 in
set_option maxHeartbeats 4000000 in
theorem refSameP_yes (va vb : Value) (ps : List Pc) (w : World) (ha : RsP w va ps) (hb : RsP w vb ps) :
    Calls Try.prog 16 #[va, vb] w fun e w' => e = .returned (.bool true) ∧ ∃ n, w' = w.drewN n := by
  obtain ⟨A, ca, rfl, hm⟩ := ha.form
  obtain ⟨B, cb, rfl, _⟩ := hb.form
  unfold maxLen at hm
  have pI : (ps.length : Int) ≤ 9223372036854775807 := by omega
  have HA := Lib.hid ha
  have HB := Lib.hid hb
  clear ha hb hm
  go_enter Try.func16, Try.ntmps16
  go_wp2_with (fail)
  refine psa_loop _ _ _ _ _ _ _ _ _ _ _ _ _ _ _ _ _ _ _ _ _ _ _ A B ca cb ps ps w (Lib.hid rfl) HA HB (Lib.hid ?_) (Lib.hid ?_)
  · intro u4 u11 u12 u13 u14 u15 u16 u17 u18 u19 u20 u21 u22 u23 u24 u25 y m _
    go_wp2_with (fail)
    go_ret
    exact ⟨rfl, m, rfl⟩
  · intro u5 u11 u12 u13 u14 u15 u16 u17 u18 u19 u20 u21 u22 u23 u24 u25 m hne
    exact absurd rfl hne.out
noncomputable def body_pgr : Code := (((Try.f6.body.map loopsOf).getD [])[0]?).getD .skip
set_option maxRecDepth 100000 in
set_option maxHeartbeats 4000000 in
theorem pgr_loop (mo : Nat) (c2 c3 c4 c6 c7 c8 c9 c10 c11 c12 c13 c14 c15 c16 c17 c18 c19 c20 c21 c22 c23 c24 c25 c26 c27 : Value) (A : Option Addr) (ca : Nat) (ps : List Pc) (w : World) (ha : Hid (RsP w (.slice A ps.length ca) ps)) {Q : Exit → Act → World → Prop}
    (HQ : Hid (∀ (u4 u6 u7 u8 u9 u10 u11 u12 u13 u14 u15 u16 u17 u18 u19 u20 u21 u22 u23 y : Value) , Hid (∀ i p, i < mo → ps[i]? = some p → p.s.size ≤ 400) → Q (.exit 0) ⟨List.toArray ((.slice A ps.length ca) :: (.int .i64 (mo : Int)) :: c2 :: c3 :: u4 :: y :: u6 :: u7 :: u8 :: u9 :: u10 :: u11 :: u12 :: u13 :: u14 :: u15 :: u16 :: u17 :: u18 :: u19 :: u20 :: u21 :: u22 :: u23 :: c24 :: c25 :: c26 :: c27 :: []), []⟩ w))
    (HE : Hid (∀ (u5 u6 u7 u8 u9 u10 u11 u12 u13 u14 u15 u16 u17 u18 u19 u20 u21 u22 u23 : Value), Q .ret ⟨List.toArray ((.slice A ps.length ca) :: (.int .i64 (mo : Int)) :: c2 :: c3 :: (.bool true) :: u5 :: u6 :: u7 :: u8 :: u9 :: u10 :: u11 :: u12 :: u13 :: u14 :: u15 :: u16 :: u17 :: u18 :: u19 :: u20 :: u21 :: u22 :: u23 :: c24 :: c25 :: c26 :: c27 :: []), []⟩ w)) :
    (Code.loop body_pgr).wp Try.prog Q ⟨List.toArray ((.slice A ps.length ca) :: (.int .i64 (mo : Int)) :: c2 :: c3 :: c4 :: (.int .i64 0) :: c6 :: c7 :: c8 :: c9 :: c10 :: c11 :: c12 :: c13 :: c14 :: c15 :: c16 :: c17 :: c18 :: c19 :: c20 :: c21 :: c22 :: c23 :: c24 :: c25 :: c26 :: c27 :: []), []⟩ w := by
  unfold body_pgr
  conv => arg 2; arg 1; whnf
  go_loopw [5] (fun x wx => ∃ (j : Nat), x = .int .i64 (j : Int) ∧ j ≤ ps.length ∧ j ≤ mo ∧ (∀ i p, i < j → ps[i]? = some p → p.s.size ≤ 400) ∧ wx = w) (fun x _ => ps.length - (intOf x).toNat)
  case atStart => exact ⟨0, rfl, Nat.zero_le _, Nat.zero_le _, fun i p h => by omega, rfl⟩
  case round =>
    obtain ⟨j, rfl, hj, hj40, hsz, rfl⟩ := hrel
    have hml : ps.length ≤ maxLen := by
      obtain ⟨_, _, _, h⟩ := ha.out.form
      exact h
    unfold maxLen at hml
    have pI : (ps.length : Int) ≤ 9223372036854775807 := by omega
    have HSZ := Lib.hid hsz
    by_cases hlt : j < ps.length
    · have jI : (j : Int) < ps.length := by omega
      have HLT := Lib.hid hlt
      by_cases h40 : j < mo
      · have j4 : decide (j < mo) = true := decide_eq_true h40
        have j5 : decide ((j : Int) < (mo : Int)) = true := decide_eq_true (by omega)
        have H40 := Lib.hid h40
        obtain ⟨p, hp⟩ : ∃ p, ps[j]? = some p := ⟨_, List.getElem?_eq_getElem hlt⟩
        obtain ⟨g, o, rfl, hg, hr, hok⟩ := ha.out.at2 hp
        have hc := (range5 hr).1
        have hk := hok.s
        obtain ⟨s, hs⟩ : ∃ s, s = p.s := ⟨_, rfl⟩
        rw [← hs] at hc hk
        unfold maxLen at hk
        have kI : (s.size : Int) ≤ 9223372036854775807 := by omega
        have HP : Hid (ps[j]? = some p ∧ s = p.s) := Lib.hid ⟨hp, hs⟩
        clear hp hs hok hr hlt h40 hj hj40 hml hsz hk
        by_cases h4 : s.size ≤ 400
        · have s4 : decide ((400 : Int) < (s.size : Int)) = false := decide_eq_false (by omega)
          have HS4 := Lib.hid h4
          clear h4
          go_wp2_with (fail)
          have h1 := HLT.out
          have h2 := H40.out
          refine ⟨⟨j + 1, by go_num, h1, h2, fun i q hi hq => ?_, by trivial⟩, by simp [intOf]; omega⟩
          by_cases e : i = j
          · subst e
            have h3 : q = p := Option.some.inj (hq.symm.trans HP.out.1)
            rw [h3, ← HP.out.2]
            exact HS4.out
          · exact HSZ.out i q (by omega) hq
        · have s4 : decide ((400 : Int) < (s.size : Int)) = true := decide_eq_true (by omega)
          clear h4
          go_wp2_with (fail)
          exact HE.out _ _ _ _ _ _ _ _ _ _ _ _ _ _ _ _ _ _ _
      · have j4 : decide (j < mo) = false := decide_eq_false h40
        have j5 : decide ((j : Int) < (mo : Int)) = false := decide_eq_false (by omega)
        have HE2 : Hid (∀ i p, i < mo → ps[i]? = some p → p.s.size ≤ 400) := Lib.hid fun i p hi => hsz i p (by omega)
        clear hlt hj hj40 hml hsz h40
        go_wp2_with (fail)
        exact HQ.out _ _ _ _ _ _ _ _ _ _ _ _ _ _ _ _ _ _ _ _ HE2
    · have jI : ¬ (j : Int) < ps.length := by omega
      have HE2 : Hid (∀ i p, i < mo → ps[i]? = some p → p.s.size ≤ 400) := Lib.hid fun i p _ hp => hsz i p (by
        obtain ⟨h, _⟩ := List.getElem?_eq_some_iff.1 hp
        omega) hp
      clear hlt hj hj40 hml hsz
      go_wp2_with (fail)
      exact HQ.out _ _ _ _ _ _ _ _ _ _ _ _ _ _ _ _ _ _ _ _ HE2
set_option maxRecDepth 100000 in
set_option maxHeartbeats 4000000 in
theorem refGreatP_any (mo : Nat) (va : Value) (ps : List Pc) (w : World) (ha : RsP w va ps) :
    Calls Try.prog 6 #[va, .int .i64 (mo : Int)] w fun e w' => ∃ b : Bool, e = .returned (.bool b) ∧ (b = false → ps.length ≤ mo ∧ ∀ p ∈ ps, p.s.size ≤ 400) ∧ w' = w := by
  obtain ⟨A, ca, rfl, hm⟩ := ha.form
  unfold maxLen at hm
  have pI : (ps.length : Int) ≤ 9223372036854775807 := by omega
  have HA := Lib.hid ha
  clear ha hm
  go_enter Try.func6, Try.ntmps6
  go_wp2_with (fail)
  refine pgr_loop mo _ _ _ _ _ _ _ _ _ _ _ _ _ _ _ _ _ _ _ _ _ _ _ _ _ A ca ps w HA (Lib.hid ?_) (Lib.hid ?_)
  · intro u4 u6 u7 u8 u9 u10 u11 u12 u13 u14 u15 u16 u17 u18 u19 u20 u21 u22 u23 y hs
    go_wp2_with (fail)
    go_ret
    refine ⟨_, rfl, fun h => ?_, rfl⟩
    have h1 : ¬ mo < ps.length := of_decide_eq_false h
    refine ⟨by omega, fun p hp => ?_⟩
    obtain ⟨i, hi, rfl⟩ := List.getElem_of_mem hp
    exact hs.out i _ (by omega) (List.getElem?_eq_getElem hi)
  · intro u5 u6 u7 u8 u9 u10 u11 u12 u13 u14 u15 u16 u17 u18 u19 u20 u21 u22 u23
    go_ret
    exact ⟨true, rfl, fun h => Bool.noConfusion h, rfl⟩
end Go.Proofs.Ytcicdbhffkpldaa
