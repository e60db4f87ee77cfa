/- '==' on labels; the fifteenth reference's SameSeries. No condition of its own. -/
import Derived.Test.YtckgpocfcanokaaLbRow
import Derived.Test.YtckgpocfcanokaaQLoad
import Derived.Laws.StructEq
import Derived.Deep.Cut
namespace Go.Proofs.Ytckgpocfcanokaa
open Go.RowKit

theorem lq_fields : Try.prog.underlying 39 = some (.struct (Try.prog.fieldsOf 39)) := by kernel_rfl
theorem lq_notstood : Try.prog.stoodInHeld 39 = false := by kernel_rfl
noncomputable def lqF (i : Nat) : Field := (Try.prog.fieldsOf 39).toList.getD i default
theorem lq_list : (Try.prog.fieldsOf 39).toList = [lqF 0, lqF 1] := by kernel_rfl
theorem lq_name0 : decide ((lqF 0).name = "_") = false ∧ (lqF 0).type = 9 ∧ (lqF 0).offset = 0 := ⟨by kernel_rfl, by kernel_rfl, by kernel_rfl⟩
theorem lq_name1 : decide ((lqF 1).name = "_") = false ∧ (lqF 1).type = 9 ∧ (lqF 1).offset = 1 := ⟨by kernel_rfl, by kernel_rfl, by kernel_rfl⟩
theorem lq_field {P : Program} (d : Nat) (xs ys : Array Value) (f : Field) (fs : List Field) {t o : Nat} (hf : decide (f.name = "_") = false ∧ f.type = t ∧ f.offset = o) {W : World} (u u' : Value) (b : Bool)
    (h1 : (part t xs o).run P W = .ok u W) (h2 : (part t ys o).run P W = .ok u' W) (he : (Op.equalIn (d + 1) t u u').run P W = .ok b W) :
    (Op.eqFields (d + 1) xs ys (f :: fs)).run P W = if b = true then (Op.eqFields (d + 1) xs ys fs).run P W else .ok false W := by
  obtain ⟨h3, rfl, rfl⟩ := hf
  have hn : f.name ≠ "_" := of_decide_eq_false h3
  rw [Op.eqFields, if_pos hn]
  cases b with
  | true => simp [h1, h2, he]
  | false => simp [h1, h2, he]
theorem run_equal_lb (s t s' t' : ByteArray) (W : World) : (Op.equalIn 10000 39 (.agg #[.string s, .string t]) (.agg #[.string s', .string t'])).run Try.prog W = .ok ((s.toList == s'.toList) && (t.toList == t'.toList)) W := by
  rw [run_equalIn_agg W 9999 39 _ _ lq_fields lq_notstood, lq_list]
  rw [lq_field 9998 _ _ _ _ lq_name0 (.string s) (.string s') (s.toList == s'.toList) (by simp [part, isAgg, run_underlying Try.underlying9]) (by simp [part, isAgg, run_underlying Try.underlying9]) (run_equalIn_string W 9998 9 s s' Try.underlying9)]
  rw [lq_field 9998 _ _ _ _ lq_name1 (.string t) (.string t') (t.toList == t'.toList) (by simp [part, isAgg, run_underlying Try.underlying9]) (by simp [part, isAgg, run_underlying Try.underlying9]) (run_equalIn_string W 9998 9 t t' Try.underlying9)]
  cases (s.toList == s'.toList) <;> cases (t.toList == t'.toList) <;> rfl
theorem ex_boolL (P : Prop) : ∃ b : Bool, b = true ↔ P := by
  by_cases e : P
  · exact ⟨true, ⟨fun _ => e, fun _ => rfl⟩⟩
  · exact ⟨false, ⟨fun h => Bool.noConfusion h, fun h => absurd h e⟩⟩
theorem run_equal_qu (p q : Qu) (hp : p.g = 0) (hq : q.g = 0) (b : Bool) (hb : b = true ↔ p = q) (W : World) : (Op.equalIn 10000 39 (.agg (lbV p).toArray) (.agg (lbV q).toArray)).run Try.prog W = .ok b W := by
  obtain ⟨n, g, v⟩ := p
  obtain ⟨n', g', v'⟩ := q
  simp only at hp hq
  subst hp hq
  have h := run_equal_lb n v n' v' W
  have e : ((n.toList == n'.toList) && (v.toList == v'.toList)) = b := by
    rw [Bool.eq_iff_iff, hb, Bool.and_eq_true, beq_iff_eq, beq_iff_eq]
    constructor
    · rintro ⟨h1, h2⟩
      rw [str_inj h1, str_inj h2]
    · intro h
      injection h with h1 _ h2
      rw [h1, h2]
      exact ⟨rfl, rfl⟩
  rw [e] at h
  exact h
theorem size_lb : (Try.prog.info? 39).map (·.size) = some 2 := by kernel_rfl
noncomputable def body_lsm : Code := (((Try.f12.body.map loopsOf).getD [])[0]?).getD .skip
set_option maxRecDepth 100000 in
set_option maxHeartbeats 4000000 in
theorem lsm_loop (c0 c1 c4 c6 c7 c8 c9 c10 c11 c12 c13 c14 c15 c16 c17 c18 c19 c20 c21 c22 c23 c24 c25 c26 c27 c28 c29 c30 c31 c32 c33 c34 c35 c36 c37 : Value) (A B : Option Addr) (ca cb X Y : Nat) (n n' : ByteArray) (ls ms : List Qu) (w : World) (hl : Hid (ls.length = ms.length)) (hx : Hid (Blk w X 24 [.string n, .slice A ls.length ca])) (hy : Hid (Blk w Y 24 [.string n', .slice B ls.length cb])) (ha : Hid (RsLb w (.slice A ls.length ca) ls)) (hb : Hid (RsLb w (.slice B ls.length cb) ms)) {Q : Exit → Act → World → Prop}
    (HQ : Hid (∀ (u4 u20 u21 u22 u23 u24 u25 u26 u27 u28 u29 u30 u31 u32 u33 u34 u35 u36 u37 y : Value) (m : Nat), Hid (ls = ms) → Q (.exit 0) ⟨List.toArray (c0 :: c1 :: (.pointer (some ⟨X, 0, none⟩)) :: (.pointer (some ⟨Y, 0, none⟩)) :: u4 :: y :: c6 :: c7 :: c8 :: c9 :: c10 :: c11 :: c12 :: c13 :: c14 :: c15 :: c16 :: c17 :: c18 :: c19 :: u20 :: u21 :: u22 :: u23 :: u24 :: u25 :: u26 :: u27 :: u28 :: u29 :: u30 :: u31 :: u32 :: u33 :: u34 :: u35 :: u36 :: u37 :: []), []⟩ (w.drewN m)))
    (HE : Hid (∀ (u20 u21 u22 u23 u24 u25 u26 u27 u28 u29 u30 u31 u32 u33 u34 u35 u36 u37 y : Value) (m : Nat), Hid (ls ≠ ms) → Q .ret ⟨List.toArray (c0 :: c1 :: (.pointer (some ⟨X, 0, none⟩)) :: (.pointer (some ⟨Y, 0, none⟩)) :: (.bool false) :: y :: c6 :: c7 :: c8 :: c9 :: c10 :: c11 :: c12 :: c13 :: c14 :: c15 :: c16 :: c17 :: c18 :: c19 :: u20 :: u21 :: u22 :: u23 :: u24 :: u25 :: u26 :: u27 :: u28 :: u29 :: u30 :: u31 :: u32 :: u33 :: u34 :: u35 :: u36 :: u37 :: []), []⟩ (w.drewN m))) :
    (Code.loop body_lsm).wp Try.prog Q ⟨List.toArray (c0 :: c1 :: (.pointer (some ⟨X, 0, none⟩)) :: (.pointer (some ⟨Y, 0, none⟩)) :: c4 :: (.int .i64 0) :: c6 :: c7 :: c8 :: c9 :: c10 :: c11 :: c12 :: c13 :: c14 :: c15 :: c16 :: c17 :: c18 :: c19 :: c20 :: c21 :: c22 :: c23 :: c24 :: c25 :: c26 :: c27 :: c28 :: c29 :: c30 :: c31 :: c32 :: c33 :: c34 :: c35 :: c36 :: c37 :: []), []⟩ w := by
  unfold body_lsm
  conv => arg 2; arg 1; whnf
  go_loopw [5] (fun x wx => ∃ (j m : Nat), x = .int .i64 (j : Int) ∧ j ≤ ls.length ∧ (∀ i, i < j → ls[i]? = ms[i]?) ∧ wx = w.drewN m) (fun x _ => ls.length - (intOf x).toNat)
  case atStart => exact ⟨0, 0, rfl, Nat.zero_le _, fun i h => by omega, rfl⟩
  case round =>
    obtain ⟨j, m, rfl, hj, heq, hwm⟩ := hrel
    have haw : RsLb wr (.slice A ls.length ca) ls := hwm ▸ ha.out.drewN m
    have hbw : RsLb wr (.slice B ls.length cb) ms := hwm ▸ hb.out.drewN m
    have hxw : Blk wr X 24 [.string n, .slice A ls.length ca] := hwm ▸ hx.out.drewN m
    have hyw : Blk wr Y 24 [.string n', .slice B ls.length cb] := hwm ▸ hy.out.drewN m
    have x1 : wr.cell? ⟨X, 1, none⟩ = some (.slice A ls.length ca) := by rw [hxw.cell]; rfl
    have y1 : wr.cell? ⟨Y, 1, none⟩ = some (.slice B ls.length cb) := by rw [hyw.cell]; rfl
    have HWM := Lib.hid hwm
    have hml : ls.length ≤ maxLen := by
      obtain ⟨_, _, _, h⟩ := ha.out.form
      exact h
    unfold maxLen at hml
    have pI : (ls.length : Int) ≤ 9223372036854775807 := by omega
    have HEQ := Lib.hid heq
    by_cases hlt : j < ls.length
    · have jI : (j : Int) < ls.length := by omega
      have HLT := Lib.hid hlt
      have hlt2 : j < ms.length := by rw [← hl.out]; exact hlt
      obtain ⟨p, hp⟩ : ∃ p, ls[j]? = some p := ⟨_, List.getElem?_eq_getElem hlt⟩
      obtain ⟨q, hq⟩ : ∃ q, ms[j]? = some q := ⟨_, List.getElem?_eq_getElem hlt2⟩
      obtain ⟨g, o, rfl⟩ := haw.addr hp
      obtain ⟨g', o', rfl⟩ := hbw.addr hq
      obtain ⟨_, r0, r1⟩ := haw.cells hp
      obtain ⟨_, r2, r3⟩ := hbw.cells hq
      have HPQ : Hid (ls[j]? = some p ∧ ms[j]? = some q) := Lib.hid ⟨hp, hq⟩
      obtain ⟨b, hbb⟩ := ex_boolL (p = q)
      have hEQ : ∀ W, (Op.equalIn 10000 39 (.agg #[.string p.n, .string p.v]) (.agg #[.string q.n, .string q.v])).run Try.prog W = .ok b W := run_equal_qu p q (ha.out.ok p (List.mem_of_getElem? hp)).2.2 (hb.out.ok q (List.mem_of_getElem? hq)).2.2 b hbb
      have HBB := Lib.hid hbb
      clear hp hq hbb hlt hlt2 heq hj hml haw hbw hxw hyw hwm
      cases b with
      | true =>
        go_wp2_with (fail)
        go_quiet (fail)
        go_wp2_with (fail)
        have h1 := HLT.out
        refine ⟨⟨j + 1, m + nq, by go_num, h1, fun i hi => ?_, by rw [HWM.out, World.drewN_drewN]⟩, by simp [intOf]; omega⟩
        by_cases e : i = j
        · subst e
          rw [HPQ.out.1, HPQ.out.2, HBB.out.1 (by trivial)]
        · exact HEQ.out i (by omega)
      | false =>
        have HNE : Hid (ls ≠ ms) := Lib.hid fun e => by
          have h1 := HPQ.out.1
          rw [e, HPQ.out.2] at h1
          injection h1 with h1
          exact Bool.noConfusion (HBB.out.2 h1.symm)
        go_wp2_with (fail)
        go_quiet (fail)
        go_wp2_with (fail)
        have hw := HWM.out
        rw [hw, World.drewN_drewN]
        exact HE.out _ _ _ _ _ _ _ _ _ _ _ _ _ _ _ _ _ _ _ _ HNE
    · have k1 : decide ((j : Int) < ls.length) = false := decide_eq_false (by omega)
      have k2 : decide (j < ls.length) = false := decide_eq_false hlt
      have HF : Hid (ls = ms) := Lib.hid (List.ext_getElem? fun i => by
        by_cases hi : i < j
        · exact heq i hi
        · rw [List.getElem?_eq_none (by omega), List.getElem?_eq_none (by rw [← hl.out]; omega)])
      clear hj heq hml haw hbw hxw hyw hwm hlt
      go_wp2_with (fail)
      have hw := HWM.out
      rw [hw]
      exact HQ.out _ _ _ _ _ _ _ _ _ _ _ _ _ _ _ _ _ _ _ _ _ HF
set_option maxRecDepth 100000 in
set_option maxHeartbeats 4000000 in
theorem refSameL_any (n : ByteArray) (va : Value) (ls : List Qu) (n' : ByteArray) (vb : Value) (ms : List Qu) (w : World) (h1 : RsLb w va ls) (h2 : RsLb w vb ms) :
    Calls Try.prog 12 #[.agg #[.string n, va], .agg #[.string n', vb]] w fun e w' => ∃ b : Bool, e = .returned (.bool b) ∧ (b = true ↔ (n = n' ∧ ls = ms)) ∧ Below w.heap.size w w' := by
  obtain ⟨A1, c1, rfl, hl1⟩ := h1.form
  obtain ⟨A2, c2, rfl, hl2⟩ := h2.form
  unfold maxLen at hl1 hl2
  obtain ⟨W0, hW0⟩ : ∃ W : World, W = (w.alloc (.cells #[.string n, .slice A1 ls.length c1] 24)).alloc (.cells #[.string n', .slice A2 ms.length c2] 24) := ⟨_, rfl⟩
  have D0 : Hid (Below w.heap.size w W0) := Lib.hid (by rw [hW0]; exact (((Below.refl _ _).alloc (Nat.le_refl _) _).alloc (by simp) _))
  have X1 : Hid (Blk W0 w.heap.size 24 [.string n, .slice A1 ls.length c1]) := Lib.hid (by rw [hW0]; exact (Blk.made w _ _).alloc _)
  have X2 : Hid (Blk W0 (w.heap.size + 1) 24 [.string n', .slice A2 ms.length c2]) := Lib.hid (by
    have h := Blk.made (w.alloc (.cells #[.string n, .slice A1 ls.length c1] 24)) 24 [.string n', .slice A2 ms.length c2]
    rw [World.size_alloc] at h
    rw [hW0]
    exact h)
  have R1 := Lib.hid (h1.below D0.out)
  have R2 := Lib.hid (h2.below D0.out)
  have p0 : W0.cell? ⟨w.heap.size, 0, none⟩ = some (.string n) := by rw [X1.out.cell]; rfl
  have p1 : W0.cell? ⟨w.heap.size, 1, none⟩ = some (.slice A1 ls.length c1) := by rw [X1.out.cell]; rfl
  have q0 : W0.cell? ⟨w.heap.size + 1, 0, none⟩ = some (.string n') := by rw [X2.out.cell]; rfl
  have q1 : W0.cell? ⟨w.heap.size + 1, 1, none⟩ = some (.slice A2 ms.length c2) := by rw [X2.out.cell]; rfl
  have HX : Hid (W0 = (w.alloc (.cells #[.string n, .slice A1 ls.length c1] 24)).alloc (.cells #[.string n', .slice A2 ms.length c2] 24)) := Lib.hid hW0
  clear h1 h2 hW0
  by_cases hn : n.toList = n'.toList
  · have k1 : (n.toList == n'.toList) = true := beq_iff_eq.2 hn
    have k2 : (n.toList != n'.toList) = false := by rw [bne, k1]; rfl
    have HN : Hid (n = n') := Lib.hid (str_inj hn)
    by_cases hl : ls.length = ms.length
    · have HL := Lib.hid hl
      rw [← hl] at q1 X2 R2 HX
      clear hn hl hl1 hl2
      go_enter Try.func12, Try.ntmps12
      go_upto_region 1 with (fail)
      rw [← HL.out, ← HX.out]
      clear HX
      go_wp2_with (fail)
      refine lsm_loop _ _ _ _ _ _ _ _ _ _ _ _ _ _ _ _ _ _ _ _ _ _ _ _ _ _ _ _ _ _ _ _ _ _ _ A1 A2 c1 c2 w.heap.size (w.heap.size + 1) n n' ls ms W0 HL X1 X2 R1 R2 (Lib.hid ?_) (Lib.hid ?_)
      · intro u4 u20 u21 u22 u23 u24 u25 u26 u27 u28 u29 u30 u31 u32 u33 u34 u35 u36 u37 y m HF
        go_wp2_with (fail)
        go_ret
        exact ⟨true, rfl, ⟨fun _ => ⟨HN.out, HF.out⟩, fun _ => rfl⟩, below_drewN D0.out m⟩
      · intro u20 u21 u22 u23 u24 u25 u26 u27 u28 u29 u30 u31 u32 u33 u34 u35 u36 u37 y m HF
        go_ret
        exact ⟨false, rfl, ⟨fun h => Bool.noConfusion h, fun h => absurd h.2 HF.out⟩, below_drewN D0.out m⟩
    · have k3 : ((ls.length : Int) == (ms.length : Int)) = false := by rw [beq_eq_false_iff_ne]; omega
      have k4 : ((ls.length : Int) != (ms.length : Int)) = true := by rw [bne, k3]; rfl
      have HL : Hid (ls ≠ ms) := Lib.hid fun e => hl (by rw [e])
      clear hn hl hl1 hl2
      go_enter Try.func12, Try.ntmps12
      go_upto_region 1 with (fail)
      rw [← HX.out]
      clear HX
      go_wp2_with (fail)
      go_ret
      exact ⟨false, rfl, ⟨fun h => Bool.noConfusion h, fun h => absurd h.2 HL.out⟩, D0.out⟩
  · have k1 : (n.toList == n'.toList) = false := by rw [beq_eq_false_iff_ne]; exact hn
    have k2 : (n.toList != n'.toList) = true := by rw [bne, k1]; rfl
    have HN : Hid (n ≠ n') := Lib.hid fun e => hn (by rw [e])
    clear hn hl1 hl2
    go_enter Try.func12, Try.ntmps12
    go_upto_region 1 with (fail)
    rw [← HX.out]
    clear HX
    go_wp2_with (fail)
    go_ret
    exact ⟨false, rfl, ⟨fun h => Bool.noConfusion h, fun h => absurd h.1 HN.out⟩, D0.out⟩
end Go.Proofs.Ytckgpocfcanokaa
