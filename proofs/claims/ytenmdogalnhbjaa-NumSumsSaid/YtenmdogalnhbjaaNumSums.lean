/- The law NumSums holds: the sum of any two wide numbers, or that it is too great, which is below, and their texts are the document's. Conditions: none. -/
import Derived.Test.YtenmdogalnhbjaaAwake
import Derived.Test.YtenmdogalnhbjaaRefText
import Derived.ProofKit
import Derived.OpenShut
import Derived.Carry
import Derived.Lib.SmallJoins
import Derived.Deep.RegionHeld3
namespace Go.Proofs.Ytenmdogalnhbjaa.numSums
open Go.ChangeShapes Go.WideShapes Go.ChangeAt Go.RowKit
open Go.Joins

set_option maxHeartbeats 400000 in
theorem refLess_eq (a b d : Int) (w : World) :
    Calls Try.prog 18 #[.agg #[.int .i64 a, .int .u64 b], .agg #[.int .i64 a, .int .u64 d]] w fun e w' => e = .returned (.bool (decide (b < d))) ∧ Below w.heap.size w w' := by
  go_enter Try.func18, Try.ntmps18
  go_wp2
  go_returns
  exact ⟨rfl, by go_grown⟩
set_option maxHeartbeats 400000 in
theorem refLess_ne (a b c d : Int) (w : World) (h : (a != c) = true) :
    Calls Try.prog 18 #[.agg #[.int .i64 a, .int .u64 b], .agg #[.int .i64 c, .int .u64 d]] w fun e w' => e = .returned (.bool (decide (a < c))) ∧ Below w.heap.size w w' := by
  go_enter Try.func18, Try.ntmps18
  go_wp2
  go_returns
  exact ⟨rfl, by go_grown⟩
theorem refLess_any (a b c d : Int) (w : World) :
    Calls Try.prog 18 #[.agg #[.int .i64 a, .int .u64 b], .agg #[.int .i64 c, .int .u64 d]] w fun e w' => e = .returned (.bool (ltW a b c d)) ∧ Below w.heap.size w w' := by
  by_cases h : a = c
  · subst h
    have e : ltW a b a d = decide (b < d) := if_pos rfl
    rw [e]
    exact refLess_eq a b d w
  · have e : ltW a b c d = decide (a < c) := if_neg h
    rw [e]
    exact refLess_ne a b c d w (by simpa using h)

theorem ad_in (a b c d : Int) (hb : 0 ≤ b ∧ b ≤ 18446744073709551615) (hd : 0 ≤ d ∧ d ≤ 18446744073709551615) :
    (-9223372036854775808 ≤ adHi a b c d ∧ adHi a b c d ≤ 9223372036854775807) ∧ 0 ≤ adLo a b c d ∧ adLo a b c d ≤ 18446744073709551615 := by
  unfold adHi adLo
  by_cases h : adOk a b c d = true
  · rw [if_pos h, if_pos h]
    unfold adOk at h
    rw [decide_eq_true_eq] at h
    refine ⟨h, ?_⟩
    split <;> omega
  · rw [if_neg h, if_neg h]
    omega
/-- Both texts of a wide number are one. -/
theorem both_texts (p q : Int) (hp : -9223372036854775808 ≤ p ∧ p ≤ 9223372036854775807) (hq : 0 ≤ q ∧ q ≤ 18446744073709551615) :
    ∃ X : List UInt8, ∀ V : World, Calls Try.prog 19 #[.agg #[.int .i64 p, .int .u64 q]] V (TxtPost V X) ∧ Calls Try.prog 20 #[.agg #[.int .i64 p, .int .u64 q]] V (TxtPost V X) := by
  have hab := abs_in p q hp.1 hp.2 hq.1 hq.2
  obtain ⟨H, hH⟩ : ∃ H : Nat, absH p q = (H : Int) := ⟨(absH p q).toNat, by omega⟩
  obtain ⟨L, hL⟩ : ∃ L : Nat, absL p q = (L : Int) := ⟨(absL p q).toNat, by omega⟩
  refine ⟨sgn p (decB 39 (H * 18446744073709551616 + L)), fun V => ⟨text_any p q V hp.1 hp.2 hq.1 hq.2 _ ?_, refText_any p q V hp.1 hp.2 hq.1 hq.2 H L hH hL _ rfl⟩⟩
  rw [hH, hL]
  omega

/-- What stays from call to call. -/
def SS (w : World) (a b c d x y : Int) (g k : Nat) (V : World) : Prop :=
  V.cell? ⟨w.heap.size, 0, none⟩ = some (.int .i64 a) ∧ V.cell? ⟨w.heap.size, 1, none⟩ = some (.int .u64 b) ∧ V.cell? ⟨w.heap.size + 1, 0, none⟩ = some (.int .i64 c) ∧ V.cell? ⟨w.heap.size + 1, 1, none⟩ = some (.int .u64 d) ∧
  V.cell? ⟨g, 0, none⟩ = some (.int .i64 x) ∧ V.cell? ⟨g, 1, none⟩ = some (.int .u64 y) ∧ V.cell? ⟨k, 0, none⟩ = some (.int .i64 x) ∧ V.cell? ⟨k, 1, none⟩ = some (.int .u64 y) ∧ Below w.heap.size w V
theorem SS.drew {w V : World} {a b c d x y : Int} {g k : Nat} (h : SS w a b c d x y g k V) : SS w a b c d x y g k V.drew :=
  ⟨h.1, h.2.1, h.2.2.1, h.2.2.2.1, h.2.2.2.2.1, h.2.2.2.2.2.1, h.2.2.2.2.2.2.1, h.2.2.2.2.2.2.2.1, h.2.2.2.2.2.2.2.2.drew⟩
theorem SS.below {w V V' : World} {a b c d x y : Int} {g k : Nat} (h : SS w a b c d x y g k V) (hb : Below V.heap.size V V') : SS w a b c d x y g k V' := by
  obtain ⟨h1, h2, h3, h4, h5, h6, h7, h8, h9⟩ := h
  have t := fun (p : Addr) (v : Value) (hp : V.cell? p = some v) => (hb.cell (World.block_lt_of_cell? V _ hp)).trans hp
  exact ⟨t _ _ h1, t _ _ h2, t _ _ h3, t _ _ h4, t _ _ h5, t _ _ h6, t _ _ h7, t _ _ h8, h9.trans (hb.mono h9.size)⟩

set_option maxRecDepth 100000 in
set_option maxHeartbeats 1000000 in
theorem walk (a b c d : Int) (w : World) (ka : (Lit.int .i64 a).wf = true) (kb : (Lit.int .u64 b).wf = true) (kc : (Lit.int .i64 c).wf = true) (kd : (Lit.int .u64 d).wf = true) :
    Calls Try.prog 4 #[.agg #[.int .i64 a, .int .u64 b], .agg #[.int .i64 c, .int .u64 d]] w fun e w' => e = .returned (.bool true) ∧ Below w.heap.size w w' := by
  have ha := bounds_i64 ka
  have hb := bounds_u64 kb
  have hc := bounds_i64 kc
  have hd := bounds_u64 kd
  have hin := ad_in a b c d hb hd
  have A1 : Hid (∀ V, Calls Try.prog 15 #[.agg #[.int .i64 a, .int .u64 b], .agg #[.int .i64 c, .int .u64 d]] V (WPost V (adHi a b c d) (adLo a b c d) (adE a b c d))) := fun V => add_any a b c d V ha hb hc hd
  have A2 : Hid (∀ V, Calls Try.prog 16 #[.agg #[.int .i64 a, .int .u64 b], .agg #[.int .i64 c, .int .u64 d]] V (WPost V (adHi a b c d) (adLo a b c d) (adE a b c d))) := fun V => refAdd_any a b c d V ha hb hc hd
  obtain ⟨X, hX⟩ := both_texts a b ha hb
  obtain ⟨Y, hY⟩ := both_texts (adHi a b c d) (adLo a b c d) hin.1 hin.2
  obtain ⟨x, hx⟩ : ∃ x, x = adHi a b c d := ⟨_, rfl⟩
  obtain ⟨y, hy⟩ : ∃ y, y = adLo a b c d := ⟨_, rfl⟩
  obtain ⟨z, hz⟩ : ∃ z, z = adE a b c d := ⟨_, rfl⟩
  rw [← hx, ← hy] at hY
  rw [← hx, ← hy, ← hz] at A1 A2
  have HX := Lib.hid hX
  have HY := Lib.hid hY
  clear hX hY hx hy hz hin ha hb hc hd ka kb kc kd
  go_enter Try.func4, Try.ntmps4
  go_wp2_with (fail)
  refine (A1.out _).mono ?_
  rintro e w1 ⟨rfl, hb1⟩
  have p1 : w1.cell? ⟨w.heap.size, 0, none⟩ = some (.int .i64 a) := by rw [hb1.cell (p := ⟨w.heap.size, 0, none⟩) (by simp; omega)]; simp [go_sem]
  have p2 : w1.cell? ⟨w.heap.size, 1, none⟩ = some (.int .u64 b) := by rw [hb1.cell (p := ⟨w.heap.size, 1, none⟩) (by simp; omega)]; simp [go_sem]
  have p3 : w1.cell? ⟨w.heap.size + 1, 0, none⟩ = some (.int .i64 c) := by rw [hb1.cell (p := ⟨w.heap.size + 1, 0, none⟩) (by simp)]; simp [go_sem]
  have p4 : w1.cell? ⟨w.heap.size + 1, 1, none⟩ = some (.int .u64 d) := by rw [hb1.cell (p := ⟨w.heap.size + 1, 1, none⟩) (by simp)]; simp [go_sem]
  have s1 : w.heap.size + 1 < w1.heap.size := by have := hb1.size; simp at this; omega
  have s0 : w.heap.size < w1.heap.size := by omega
  have B1 : Below w.heap.size w w1 := Below.trans (by go_grown) (hb1.mono (by simp; omega))
  clear hb1
  go_wp2_with (fail)
  refine (A2.out _).mono ?_
  rintro e w2 ⟨rfl, hb2⟩
  have hsz := hb2.size
  simp at hsz
  have keep := fun (p : Addr) (v : Value) (hp : p.block < w1.heap.size) (hv : w1.cell? p = some v) => ((hb2.cell (p := p) (by simp; omega)).trans (World.cell?_alloc_lt w1 _ p hp)).trans hv
  have q1 := keep _ _ s0 p1
  have q2 := keep _ _ s0 p2
  have q3 := keep _ _ s1 p3
  have q4 := keep _ _ s1 p4
  have q5 : w2.cell? ⟨w1.heap.size, 0, none⟩ = some (.int .i64 x) := by rw [hb2.cell (p := ⟨w1.heap.size, 0, none⟩) (by simp)]; simp
  have q6 : w2.cell? ⟨w1.heap.size, 1, none⟩ = some (.int .u64 y) := by rw [hb2.cell (p := ⟨w1.heap.size, 1, none⟩) (by simp)]; simp
  have B2 : Below w.heap.size w w2 := (B1.alloc B1.size _).trans (hb2.mono (by have := B1.size; simp; omega))
  have t1 : w1.heap.size < w2.heap.size := by omega
  have t2 : w.heap.size < w2.heap.size := by omega
  have t3 : w.heap.size + 1 < w2.heap.size := by omega
  clear hb2 keep p1 p2 p3 p4 hsz
  go_wp2_with (fail)
  obtain ⟨W, hW⟩ : ∃ W, W = w2.alloc (.cells #[.int .i64 x, .int .u64 y] 35) := ⟨_, rfl⟩
  have hS0 : SS w a b c d x y w1.heap.size w2.heap.size W := by
    have keep := fun (p : Addr) (v : Value) (hp : p.block < w2.heap.size) (hv : w2.cell? p = some v) => (World.cell?_alloc_lt w2 (.cells #[.int .i64 x, .int .u64 y] 35) p hp).trans hv
    rw [hW]
    exact ⟨keep _ _ t2 q1, keep _ _ t2 q2, keep _ _ t3 q3, keep _ _ t3 q4, keep _ _ t1 q5, keep _ _ t1 q6, by simp, by simp, B2.alloc B2.size _⟩
  rw [← hW]
  obtain ⟨g, hg⟩ : ∃ g, g = w1.heap.size := ⟨_, rfl⟩
  obtain ⟨k, hk⟩ : ∃ k, k = w2.heap.size := ⟨_, rfl⟩
  rw [← hg, ← hk] at hS0 ⊢
  clear hW hg hk q1 q2 q3 q4 q5 q6 t1 t2 t3 B2 B1 s0 s1
  have C1 : Hid (∀ V, SS w a b c d x y g k V → Calls Try.prog 17 #[.agg #[.int .i64 a, .int .u64 b], .agg #[.int .i64 c, .int .u64 d]] V fun e w' => e = .returned (.bool (ltW a b c d)) ∧ SS w a b c d x y g k w') := fun V hV => (less_any a b c d V).mono fun e w' ⟨he, hb⟩ => ⟨he, hV.below hb⟩
  have C2 : Hid (∀ V, SS w a b c d x y g k V → Calls Try.prog 18 #[.agg #[.int .i64 a, .int .u64 b], .agg #[.int .i64 c, .int .u64 d]] V fun e w' => e = .returned (.bool (ltW a b c d)) ∧ SS w a b c d x y g k w') := fun V hV => (refLess_any a b c d V).mono fun e w' ⟨he, hb⟩ => ⟨he, hV.below hb⟩
  have C3 : Hid (∀ V, SS w a b c d x y g k V → Calls Try.prog 19 #[.agg #[.int .i64 a, .int .u64 b]] V fun e w' => e = .returned (.string ⟨X.toArray⟩) ∧ SS w a b c d x y g k w') := fun V hV => ((HX.out V).1).mono fun e w' ⟨he, hb⟩ => ⟨he, hV.below hb⟩
  have C4 : Hid (∀ V, SS w a b c d x y g k V → Calls Try.prog 20 #[.agg #[.int .i64 a, .int .u64 b]] V fun e w' => e = .returned (.string ⟨X.toArray⟩) ∧ SS w a b c d x y g k w') := fun V hV => ((HX.out V).2).mono fun e w' ⟨he, hb⟩ => ⟨he, hV.below hb⟩
  have C5 : Hid (∀ V, SS w a b c d x y g k V → Calls Try.prog 19 #[.agg #[.int .i64 x, .int .u64 y]] V fun e w' => e = .returned (.string ⟨Y.toArray⟩) ∧ SS w a b c d x y g k w') := fun V hV => ((HY.out V).1).mono fun e w' ⟨he, hb⟩ => ⟨he, hV.below hb⟩
  have C6 : Hid (∀ V, SS w a b c d x y g k V → Calls Try.prog 20 #[.agg #[.int .i64 x, .int .u64 y]] V fun e w' => e = .returned (.string ⟨Y.toArray⟩) ∧ SS w a b c d x y g k w') := fun V hV => ((HY.out V).2).mono fun e w' ⟨he, hb⟩ => ⟨he, hV.below hb⟩
  have C7 : Hid (∀ V, SS w a b c d x y g k V → Calls Try.prog 7 #[] V fun e w' => e = .returned (.bool true) ∧ SS w a b c d x y g k w') := fun V hV => (awake_any V).mono fun e w' ⟨he, hb⟩ => ⟨he, hV.below hb⟩
  have hS : W.cell? ⟨w.heap.size, 0, none⟩ = some (.int .i64 a) ∧ W.cell? ⟨w.heap.size, 1, none⟩ = some (.int .u64 b) ∧ W.cell? ⟨w.heap.size + 1, 0, none⟩ = some (.int .i64 c) ∧ W.cell? ⟨w.heap.size + 1, 1, none⟩ = some (.int .u64 d) ∧ W.cell? ⟨g, 0, none⟩ = some (.int .i64 x) ∧ W.cell? ⟨g, 1, none⟩ = some (.int .u64 y) ∧ W.cell? ⟨k, 0, none⟩ = some (.int .i64 x) ∧ W.cell? ⟨k, 1, none⟩ = some (.int .u64 y) ∧ Below w.heap.size w W := hS0
  clear hS0
  go_region_held3 (fun V => V.cell? ⟨w.heap.size, 0, none⟩ = some (.int .i64 a) ∧ V.cell? ⟨w.heap.size, 1, none⟩ = some (.int .u64 b) ∧ V.cell? ⟨w.heap.size + 1, 0, none⟩ = some (.int .i64 c) ∧ V.cell? ⟨w.heap.size + 1, 1, none⟩ = some (.int .u64 d) ∧ V.cell? ⟨g, 0, none⟩ = some (.int .i64 x) ∧ V.cell? ⟨g, 1, none⟩ = some (.int .u64 y) ∧ V.cell? ⟨k, 0, none⟩ = some (.int .i64 x) ∧ V.cell? ⟨k, 1, none⟩ = some (.int .u64 y) ∧ Below w.heap.size w V) (first | assumption | (exact SS.drew (by assumption)) | go_keep)
    (first
      | (go_at_call 17; refine (C1.out _ ?_).mono ?_; (first | assumption | (exact SS.drew (by assumption))); rintro e v1 ⟨rfl, s1⟩)
      | (go_at_call 18; refine (C2.out _ ?_).mono ?_; (first | assumption | (exact SS.drew (by assumption))); rintro e v2 ⟨rfl, s2⟩)
      | (go_at_call_of 19 (Value.agg #[Value.int IntKind.i64 a, Value.int IntKind.u64 b]); refine (C3.out _ ?_).mono ?_; (first | assumption | (exact SS.drew (by assumption))); rintro e v3 ⟨rfl, s3⟩)
      | (go_at_call_of 20 (Value.agg #[Value.int IntKind.i64 a, Value.int IntKind.u64 b]); refine (C4.out _ ?_).mono ?_; (first | assumption | (exact SS.drew (by assumption))); rintro e v4 ⟨rfl, s4⟩)
      | (go_at_call_of 19 (Value.agg #[Value.int IntKind.i64 x, Value.int IntKind.u64 y]); refine (C5.out _ ?_).mono ?_; (first | assumption | (exact SS.drew (by assumption))); rintro e v5 ⟨rfl, s5⟩)
      | (go_at_call_of 20 (Value.agg #[Value.int IntKind.i64 x, Value.int IntKind.u64 y]); refine (C6.out _ ?_).mono ?_; (first | assumption | (exact SS.drew (by assumption))); rintro e v6 ⟨rfl, s6⟩)
      | (go_at_call 7; refine (C7.out _ ?_).mono ?_; (first | assumption | (exact SS.drew (by assumption))); rintro e v7 ⟨rfl, s7⟩))
  go_wp2_with (fail)
  go_ret
  exact ⟨rfl, s7.2.2.2.2.2.2.2.2⟩

theorem own : ownKnob Try.prog.godebug = none := by kernel_rfl
theorem cells0 : Try.prog.cellsOf 35 = 2 := by kernel_rfl
theorem cells1 : Try.prog.cellsOf 35 = 2 := by kernel_rfl

set_option maxRecDepth 100000 in
theorem lifted (os : Os) (started : os.Started) (H : Type) (enc : TypeId × Value → H) :
    ReturnsInHanded {} Try.checked os 4 .any (Rows.numSumsSpec.pre6 enc Try.prog Try.f4 Rows.numSumsRow.domain false) (Rows.numSumsSpec.post enc Try.prog Try.f4 false true false false) := by
  refine returnsInHanded_of_change (C := Try.checked) own started (by kernel_rfl) Try.func4
    (ChangeSpec.witness6 (enc := enc) (C := Try.checked) false ⟨#[], #[.agg #[.int .i64 0, .int .u64 0], .agg #[.int .i64 0, .int .u64 0]], []⟩ 8 (by kernel_rfl) (by kernel_rfl) (by kernel_rfl) (by kernel_rfl)) ?_
  intro W base args ds gs before hval0 hW hcnd _
  have hval : ∀ (j : Nat) t v, Try.f4.params[j]? = some t → args[j]? = some v → Value.okWide Try.prog W .any base t v := hval0
  have hW' := hW
  obtain ⟨p, q, hA0, hV, rfl, hfz, hnd⟩ := hW
  have hA : DataW.TrodAll enc Try.prog W 0 (fun _ => true) true Try.f4.params.toList args.toList ds p := hA0
  rw [Try.params4] at hA hval
  obtain ⟨v0, vs0, dd0, ds0, p0, q0, hargs, rfl, rfl, h0, r0⟩ := trodAll_cons hA
  obtain ⟨v1, vs1, dd1, ds1, p1, q1, rfl, rfl, rfl, h1, r1⟩ := trodAll_cons r0
  obtain ⟨rfl, rfl, rfl⟩ := trodAll_nil r1
  obtain rfl : args = #[v0, v1] := by cases args; simp_all
  obtain ⟨rfl, rfl⟩ := trodVars_none hV
  obtain ⟨c0, d0, y0, z0, m0, rfl, rfl, rfl, hy0, hz0⟩ := open_agg2 Try.underlying35 (by kernel_rfl) cells0 (hval 0 35 v0 rfl rfl) h0
  obtain ⟨a0, e0, rfl, k0⟩ := DataW.trod_int Try.underlying2 hy0
  obtain ⟨b0, f0, rfl, l0⟩ := DataW.trod_int Try.underlying23 hz0
  simp at e0 f0
  subst e0 f0
  obtain ⟨c1, d1, y1, z1, m1, rfl, rfl, rfl, hy1, hz1⟩ := open_agg2 Try.underlying35 (by kernel_rfl) cells1 (hval 1 35 v1 rfl rfl) h1
  obtain ⟨a1, e1, rfl, k1⟩ := DataW.trod_int Try.underlying2 hy1
  obtain ⟨b1, f1, rfl, l1⟩ := DataW.trod_int Try.underlying23 hz1
  simp at e1 f1
  subst e1 f1
  clear hA0 hval0
  refine (walk a0 b0 a1 b1 W k0 l0 k1 l1).mono fun e W' ⟨he, bel⟩ => ?_
  subst he
  exact ⟨_, rfl, _, _, _, [], _, [], hW', trodAll_mk1 (shut_bool Try.underlying4 _), (trodAll_cons_mk (shut_agg2 (y0 := (.lit (.int .i64 a0), [])) (y1 := (.lit (.int .u64 b0), [])) Try.underlying35 (by kernel_rfl) cells0 ⟨1, Go.ChangeShapes.trod_int_mk 0 Try.underlying2 k0⟩ ⟨1, Go.ChangeShapes.trod_int_mk 0 Try.underlying23 l0⟩) (trodAll_cons_mk (shut_agg2 (y0 := (.lit (.int .i64 a1), [])) (y1 := (.lit (.int .u64 b1), [])) Try.underlying35 (by kernel_rfl) cells1 ⟨1, Go.ChangeShapes.trod_int_mk 0 Try.underlying2 k1⟩ ⟨1, Go.ChangeShapes.trod_int_mk 0 Try.underlying23 l1⟩) trodAll_mk0)), rfl, bel.frame _, fun h => by cases h⟩

theorem over : Rows.numSumsRow.holds Try.pinned (OpenSpec.ofChange Rows.numSumsSpec) :=
  OpenClaim.holds_of_wide 4 Try.f4 rfl rfl rfl rfl rfl rfl rfl ⟨rfl, rfl, rfl, rfl, rfl⟩ rfl rfl rfl rfl rfl (by kernel_rfl) Try.func4 (by kernel_rfl)
    (of_decide_eq_true (by kernel_rfl)) (by unfold Func.isWrapper; first | (rw [if_pos (by decide +kernel)]; kernel_rfl) | (rw [if_neg (by decide +kernel)]; exact ⟨rfl, rfl⟩))
    (fun os started H enc _ => lifted os started H enc)

theorem proved : Rows.NumSumsSaid := over
#print axioms proved
end Go.Proofs.Ytenmdogalnhbjaa.numSums
