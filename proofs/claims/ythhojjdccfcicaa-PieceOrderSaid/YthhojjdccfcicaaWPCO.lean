/- The thirteenth law's third statement: PieceOrder. Premise: the contracts. -/
import Derived.Test.YthhojjdccfcicaaPcOrd
import Derived.Test.YthhojjdccfcicaaKept
import Derived.BigQuiet
namespace Go.Proofs.Ythhojjdccfcicaa
open Go.RowKit
noncomputable def body_pco : Code := (((Try.f4.body.map loopsOf).getD [])[0]?).getD .skip
set_option maxRecDepth 100000 in
set_option maxHeartbeats 4000000 in
theorem pco_loop (PC : PieceC) (c0 c1 c2 c3 c4 c5 c6 c9 c10 c11 c12 c13 c14 c15 c16 c17 c18 c19 c20 c21 c22 c23 c24 c25 c26 c27 c28 c29 c30 c31 c32 c33 c34 c35 c36 c37 c38 c39 c40 c41 c42 c43 c44 c45 c46 c47 c48 c49 c50 c51 c52 c53 c54 c55 c56 c57 c58 c59 c60 c61 c62 c63 c64 c65 c66 c67 c68 c69 c70 c71 c72 c73 c74 c75 c76 c77 c78 c79 c80 c81 c82 c83 c84 c85 c86 c87 c88 c89 : Value) (w0 : World) (v0 v1 v2 : Value) (la lb lc X : List Pc) (A : Option Addr) (cx : Nat) (w : World) (hS : Hid (OrdS w0 v0 v1 v2 (.slice A X.length cx) la lb lc X w)) (hX : Hid (X.Pairwise keyLt)) {Q : Exit → Act → World → Prop}
    (HQ : Hid (∀ (u6 u66 u67 u68 u69 u70 u71 u72 u73 u74 u75 u76 u77 u78 u79 u80 u81 u82 y : Value) (w' : World), Hid (OrdS w0 v0 v1 v2 (.slice A X.length cx) la lb lc X w') → Q (.exit 0) ⟨List.toArray (c0 :: c1 :: c2 :: c3 :: c4 :: c5 :: u6 :: (.slice A X.length cx) :: y :: c9 :: c10 :: c11 :: c12 :: c13 :: c14 :: c15 :: c16 :: c17 :: c18 :: c19 :: c20 :: c21 :: c22 :: c23 :: c24 :: c25 :: c26 :: c27 :: c28 :: c29 :: c30 :: c31 :: c32 :: c33 :: c34 :: c35 :: c36 :: c37 :: c38 :: c39 :: c40 :: c41 :: c42 :: c43 :: c44 :: c45 :: c46 :: c47 :: c48 :: c49 :: c50 :: c51 :: c52 :: c53 :: c54 :: c55 :: c56 :: c57 :: c58 :: c59 :: c60 :: c61 :: c62 :: c63 :: c64 :: c65 :: u66 :: u67 :: u68 :: u69 :: u70 :: u71 :: u72 :: u73 :: u74 :: u75 :: u76 :: u77 :: u78 :: u79 :: u80 :: u81 :: u82 :: c83 :: c84 :: c85 :: c86 :: c87 :: c88 :: c89 :: []), []⟩ w')) :
    (Code.loop body_pco).wp Try.prog Q ⟨List.toArray (c0 :: c1 :: c2 :: c3 :: c4 :: c5 :: c6 :: (.slice A X.length cx) :: (.int .i64 1) :: c9 :: c10 :: c11 :: c12 :: c13 :: c14 :: c15 :: c16 :: c17 :: c18 :: c19 :: c20 :: c21 :: c22 :: c23 :: c24 :: c25 :: c26 :: c27 :: c28 :: c29 :: c30 :: c31 :: c32 :: c33 :: c34 :: c35 :: c36 :: c37 :: c38 :: c39 :: c40 :: c41 :: c42 :: c43 :: c44 :: c45 :: c46 :: c47 :: c48 :: c49 :: c50 :: c51 :: c52 :: c53 :: c54 :: c55 :: c56 :: c57 :: c58 :: c59 :: c60 :: c61 :: c62 :: c63 :: c64 :: c65 :: c66 :: c67 :: c68 :: c69 :: c70 :: c71 :: c72 :: c73 :: c74 :: c75 :: c76 :: c77 :: c78 :: c79 :: c80 :: c81 :: c82 :: c83 :: c84 :: c85 :: c86 :: c87 :: c88 :: c89 :: []), []⟩ w := by
  unfold body_pco
  conv => arg 2; arg 1; whnf
  go_loopw [8] (fun x wx => ∃ (k : Nat), x = .int .i64 (k : Int) ∧ 1 ≤ k ∧ k ≤ X.length + 1 ∧ OrdS w0 v0 v1 v2 (.slice A X.length cx) la lb lc X wx) (fun x _ => X.length + 1 - (intOf x).toNat)
  case atStart => exact ⟨1, rfl, Nat.le_refl _, by omega, hS.out⟩
  case round =>
    obtain ⟨k, rfl, h1k, hkx, hs⟩ := hrel
    have hml : X.length ≤ maxLen := by
      obtain ⟨_, _, _, h⟩ := hs.rx.form
      exact h
    unfold maxLen at hml
    have pI : (X.length : Int) ≤ 9223372036854775807 := by omega
    by_cases hlt : k < X.length
    · obtain ⟨j, hj⟩ : ∃ j, k = j + 1 := ⟨k - 1, by omega⟩
      have kI : (k : Int) < X.length := by omega
      have jI : (j : Int) < X.length := by omega
      have jw : IntKind.i64.wrap ((k : Int) - 1) = (j : Int) := by
        rw [IntWalk.i64_in _ (by omega)]
        omega
      have KI := Lib.hid (show 1 ≤ k ∧ k < X.length from ⟨h1k, hlt⟩)
      obtain ⟨p, hp⟩ : ∃ p, X[j]? = some p := ⟨_, List.getElem?_eq_getElem (by omega)⟩
      obtain ⟨q, hq⟩ : ∃ q, X[k]? = some q := ⟨_, List.getElem?_eq_getElem hlt⟩
      have hless : lessP p q = true := by
        obtain ⟨a1, e1⟩ := List.getElem?_eq_some_iff.1 hp
        obtain ⟨a2, e2⟩ := List.getElem?_eq_some_iff.1 hq
        rw [← e1, ← e2]
        exact keyLt_less (List.pairwise_iff_getElem.1 hX.out j k a1 a2 (by omega))
      obtain ⟨g, o, rfl, hg, hr, hok⟩ := hs.rx.at2 hp
      obtain ⟨g', o', he, _, hr', hok'⟩ := hs.rx.at2 hq
      obtain ⟨rfl, rfl⟩ : g = g' ∧ o = o' := by
        injection he with he
        injection he with h1 h2
        exact ⟨h1, h2⟩
      have HL0 : Hid (∀ V, Calls Try.prog 10 #[.agg p.vs.toArray, .agg q.vs.toArray] V fun e V' => e = .returned (.bool true) ∧ Below V.heap.size V V') := Lib.hid fun V => by
        have h1 := PC.less p q V hok hok'
        rw [hless] at h1
        exact h1
      obtain ⟨xs, hxs⟩ : ∃ xs, xs = p.vs := ⟨_, rfl⟩
      obtain ⟨ys, hys⟩ : ∃ ys, ys = q.vs := ⟨_, rfl⟩
      have LX : Hid (xs.length = 5) := Lib.hid (by rw [hxs]; rfl)
      have LY : Hid (ys.length = 5) := Lib.hid (by rw [hys]; rfl)
      rw [← hxs] at hr HL0
      rw [← hys] at hr' HL0
      have hS0 : wr.rangeAt g (o + j * 5) xs ∧ wr.rangeAt g (o + k * 5) ys ∧ OrdS w0 v0 v1 v2 (.slice (some ⟨g, o, none⟩) X.length cx) la lb lc X wr := ⟨hr, hr', hs⟩
      have ON : ∀ {V V' : World}, (V.rangeAt g (o + j * 5) xs ∧ V.rangeAt g (o + k * 5) ys ∧ OrdS w0 v0 v1 v2 (.slice (some ⟨g, o, none⟩) X.length cx) la lb lc X V) → Below V.heap.size V V' → (V'.rangeAt g (o + j * 5) xs ∧ V'.rangeAt g (o + k * 5) ys ∧ OrdS w0 v0 v1 v2 (.slice (some ⟨g, o, none⟩) X.length cx) la lb lc X V') := fun {V V'} h hb => by
        obtain ⟨g2, o2, e2, h2, _, _⟩ := h.2.2.rx.at2 hp
        injection e2 with e2
        injection e2 with e2 _
        subst e2
        exact ⟨range_below h.1 h2 hb, range_below h.2.1 h2 hb, h.2.2.on hb⟩
      have SD : ∀ {V : World}, (V.rangeAt g (o + j * 5) xs ∧ V.rangeAt g (o + k * 5) ys ∧ OrdS w0 v0 v1 v2 (.slice (some ⟨g, o, none⟩) X.length cx) la lb lc X V) → (V.drew.rangeAt g (o + j * 5) xs ∧ V.drew.rangeAt g (o + k * 5) ys ∧ OrdS w0 v0 v1 v2 (.slice (some ⟨g, o, none⟩) X.length cx) la lb lc X V.drew) := fun h => ON h (below_drewN (Below.refl _ _) 1)
      have HL : Hid (∀ V, (V.rangeAt g (o + j * 5) xs ∧ V.rangeAt g (o + k * 5) ys ∧ OrdS w0 v0 v1 v2 (.slice (some ⟨g, o, none⟩) X.length cx) la lb lc X V) → Calls Try.prog 10 #[.agg xs.toArray, .agg ys.toArray] V fun e V' => e = .returned (.bool true) ∧ (V'.rangeAt g (o + j * 5) xs ∧ V'.rangeAt g (o + k * 5) ys ∧ OrdS w0 v0 v1 v2 (.slice (some ⟨g, o, none⟩) X.length cx) la lb lc X V')) := Lib.hid fun V hV => by
        refine (HL0.out V).mono ?_
        rintro e V' ⟨rfl, hb⟩
        exact ⟨rfl, ON hV hb⟩
      clear hr hr' hok hok' hp hq hxs hys hlt hg hml hs hless h1k hkx hj HL0 he
      go_wp2_with (fail)
      refine wp_region_noPanic ?_
      refine wp_region_held_drew (S := fun V => V.rangeAt g (o + j * 5) xs ∧ V.rangeAt g (o + k * 5) ys ∧ OrdS w0 v0 v1 v2 (.slice (some ⟨g, o, none⟩) X.length cx) la lb lc X V) (by kernel_rfl) ?_ (fun hHeld => ?_)
      · (first | assumption | exact SD (by assumption))
      refine take_put (i := 0) (oi := _) (v := ?_) 72 rfl rfl (by kernel_rfl) (by kernel_rfl) (by kernel_rfl) (fun _ _ _ h => h) (Or.inl ⟨by rfl, ?hy0⟩) (by assumption) ?_
      case hy0 => ((intro W hSw); (try dsimp only at hSw); go_simp; try (with_reducible rfl))
      simp only [List.set_cons_zero, List.set_cons_succ]
      refine take_put (i := 1) (oi := _) (v := ?_) 73 rfl rfl (by kernel_rfl) (by kernel_rfl) (by kernel_rfl) (fun _ _ _ h => h) (Or.inl ⟨by rfl, ?hy1⟩) (by assumption) ?_
      case hy1 => ((intro W hSw); (try dsimp only at hSw); go_simp; try (with_reducible rfl))
      simp only [List.set_cons_zero, List.set_cons_succ]
      refine take_put (i := 2) (oi := _) (v := ?_) 74 rfl rfl (by kernel_rfl) (by kernel_rfl) (by kernel_rfl) (fun _ _ _ h => h) (Or.inl ⟨by rfl, ?hy2⟩) (by assumption) ?_
      case hy2 => ((intro W hSw); (try dsimp only at hSw); go_simp; try (with_reducible rfl))
      simp only [List.set_cons_zero, List.set_cons_succ]
      refine take_put (i := 3) (oi := _) (v := ?_) 75 rfl rfl (by kernel_rfl) (by kernel_rfl) (by kernel_rfl) (fun _ _ _ h => h) (Or.inl ⟨by rfl, ?hy3⟩) (by assumption) ?_
      case hy3 => ((intro W hSw); (try dsimp only at hSw); go_simp; try (with_reducible rfl))
      simp only [List.set_cons_zero, List.set_cons_succ]
      refine take_put (i := 4) (oi := _) (v := _) 76 rfl rfl (by kernel_rfl) (by kernel_rfl) (by kernel_rfl) (fun _ _ _ h => h) (yieldsIf_load_mid (by rfl) _ _ rfl g (o + j * 5) rfl xs _ (fun W hW => hW.1) Try.underlying27 rfl (by rw [LX.out]; exact size_pc)) (by assumption) ?_
      simp only [List.set_cons_zero, List.set_cons_succ]
      refine take_put (i := 5) (oi := _) (v := ?_) 77 rfl rfl (by kernel_rfl) (by kernel_rfl) (by kernel_rfl) (fun _ _ _ h => h) (Or.inl ⟨by rfl, ?hy5⟩) (by assumption) ?_
      case hy5 => ((intro W hSw); (try dsimp only at hSw); go_simp; try (with_reducible rfl))
      simp only [List.set_cons_zero, List.set_cons_succ]
      refine take_put (i := 6) (oi := _) (v := ?_) 78 rfl rfl (by kernel_rfl) (by kernel_rfl) (by kernel_rfl) (fun _ _ _ h => h) (Or.inl ⟨by rfl, ?hy6⟩) (by assumption) ?_
      case hy6 => ((intro W hSw); (try dsimp only at hSw); go_simp; try (with_reducible rfl))
      simp only [List.set_cons_zero, List.set_cons_succ]
      refine take_put (i := 7) (oi := _) (v := ?_) 79 rfl rfl (by kernel_rfl) (by kernel_rfl) (by kernel_rfl) (fun _ _ _ h => h) (Or.inl ⟨by rfl, ?hy7⟩) (by assumption) ?_
      case hy7 => ((intro W hSw); (try dsimp only at hSw); go_simp; try (with_reducible rfl))
      simp only [List.set_cons_zero, List.set_cons_succ]
      refine take_put (i := 8) (oi := _) (v := _) 80 rfl rfl (by kernel_rfl) (by kernel_rfl) (by kernel_rfl) (fun _ _ _ h => h) (yieldsIf_load_mid (by rfl) _ _ rfl g (o + k * 5) rfl ys _ (fun W hW => hW.2.1) Try.underlying27 rfl (by rw [LY.out]; exact size_pc)) (by assumption) ?_
      simp only [List.set_cons_zero, List.set_cons_succ]
      refine wpAnyH_ready (rs := [9]) (by kernel_rfl) (by simp) ?_
      refine AllReadyH.cons (o := _) rfl (fun K hK => ?_) AllReadyH.nil
      go_simp
      (go_at_call 10; refine (HL.out _ ?_).mono ?_; (first | assumption | exact SD (by assumption)); rintro e v1 ⟨rfl, s1⟩)
      refine hK.out _ _ ?_ (fun hHeld => ?_)
      · (first | assumption | exact SD (by assumption))
      clear hK K
      try simp only [Act.put, List.setIfInBounds_toArray, List.set_cons_zero, List.set_cons_succ]
      refine take_put (i := 10) (oi := _) (v := ?_) 82 rfl rfl (by kernel_rfl) (by kernel_rfl) (by kernel_rfl) (fun _ _ _ h => h) (Or.inl ⟨by rfl, ?hy10⟩) (by assumption) ?_
      case hy10 => ((intro W hSw); (try dsimp only at hSw); go_simp; try (with_reducible rfl))
      simp only [List.set_cons_zero, List.set_cons_succ]
      refine wpAnyH_done (by kernel_rfl) ?_ _
      refine NoPanic.normal ?_
      have HS1 := Lib.hid s1.2.2
      clear s1 hS0
      go_wp2_with (fail)
      have h1 := KI.out
      refine ⟨⟨k + 1, by go_num, by omega, by omega, HS1.out⟩, by simp [intOf]; omega⟩
    · have kI : ¬ (k : Int) < X.length := by omega
      have HS := Lib.hid hs
      clear hs hlt hml h1k hkx
      go_wp2_with (fail)
      exact HQ.out _ _ _ _ _ _ _ _ _ _ _ _ _ _ _ _ _ _ _ _ HS
set_option maxRecDepth 100000 in
set_option maxHeartbeats 8000000 in
theorem pieceOrder.walkC (PC : PieceC) (v0 : Value) (la : List Pc) (v1 : Value) (lb : List Pc) (v2 : Value) (lc : List Pc) (w : World) (k0 : RsP w v0 la) (k1 : RsP w v1 lb) (k2 : RsP w v2 lc) :
    Calls Try.prog 4 #[v0, v1, v2] w fun e w' => e = .returned (.bool true) ∧ Below w.heap.size w w' := by
  obtain ⟨A0, c0, rfl, _⟩ := k0.form
  obtain ⟨A1, c1, rfl, _⟩ := k1.form
  obtain ⟨A2, c2, rfl, _⟩ := k2.form
  have K0 := Lib.hid k0
  have K1 := Lib.hid k1
  have K2 := Lib.hid k2
  clear k0 k1 k2
  have HAW : ∀ W : World, Calls Try.prog 5 #[] W fun e W' => e = .returned (.bool true) ∧ Below W.heap.size W W' := awakeP_any PC
  have HA := Lib.hid HAW
  clear HAW
  go_enter Try.func4, Try.ntmps4
  go_wp2_with (fail)
  refine (refGreatP_any 40 _ la w K0.out).mono ?_
  rintro e wg ⟨b, rfl, hb0, hwg⟩
  replace hwg := hwg.symm
  subst hwg
  cases b with
  | true =>
    clear hb0
    go_wp2_with (fail)
    refine (HA.out _).mono ?_
    rintro e w1 ⟨rfl, hb⟩
    have B := Lib.hid hb
    clear hb
    go_wp2_with (fail)
    go_ret
    exact ⟨rfl, B.out⟩
  | false =>
    have N0 := Lib.hid (hb0 rfl).1
    clear hb0
    go_wp2_with (fail)
    refine (refGreatP_any 40 _ lb _ K1.out).mono ?_
    rintro e wg ⟨b, rfl, hb0, hwg⟩
    replace hwg := hwg.symm
    subst hwg
    cases b with
    | true =>
      clear hb0
      go_wp2_with (fail)
      refine (HA.out _).mono ?_
      rintro e w1 ⟨rfl, hb⟩
      have B := Lib.hid hb
      clear hb
      go_wp2_with (fail)
      go_ret
      exact ⟨rfl, B.out⟩
    | false =>
      have N1 := Lib.hid (hb0 rfl).1
      clear hb0
      go_wp2_with (fail)
      refine (refGreatP_any 40 _ lc _ K2.out).mono ?_
      rintro e wg ⟨b, rfl, hb0, hwg⟩
      replace hwg := hwg.symm
      subst hwg
      cases b with
      | true =>
        clear hb0
        go_wp2_with (fail)
        refine (HA.out _).mono ?_
        rintro e w1 ⟨rfl, hb⟩
        have B := Lib.hid hb
        clear hb
        go_wp2_with (fail)
        go_ret
        exact ⟨rfl, B.out⟩
      | false =>
        have N2 := Lib.hid (hb0 rfl).1
        clear hb0
        go_wp2_with (fail)
        refine (merge_three PC _ K0.out K1.out K2.out (by have := N0.out; have := N1.out; have := N2.out; omega)).mono ?_
        rintro e w1 ⟨u, X, rfl, hX, hr, hb⟩
        have hlX := merged_len hX
        obtain ⟨A, cx, rfl, _⟩ := hr.form
        have HX := Lib.hid hX
        have NX : Hid (X.length ≤ 120) := Lib.hid (by
          have := N0.out
          have := N1.out
          have := N2.out
          simp at hlX
          omega)
        have S1 : Hid (OrdS w (.slice A0 la.length c0) (.slice A1 lb.length c1) (.slice A2 lc.length c2) (.slice A X.length cx) la lb lc X w1) := Lib.hid ⟨hb, K0.out.below hb, K1.out.below hb, K2.out.below hb, hr⟩
        have NN : Hid (lc.length + la.length + lb.length ≤ 1000 ∧ la.length + lb.length ≤ 1000 ∧ lc.length + lb.length ≤ 1000 ∧ X.length + X.length ≤ 1000) := Lib.hid (by
          have := N0.out
          have := N1.out
          have := N2.out
          have := NX.out
          refine ⟨?_, ?_, ?_, ?_⟩ <;> omega)
        have NM : Hid ((∀ M, MergedOf M (la ++ lb) → M.length + lc.length ≤ 1000) ∧ (∀ M, MergedOf M (lc ++ lb) → la.length + M.length ≤ 1000)) := Lib.hid (by
          have := N0.out
          have := N1.out
          have := N2.out
          refine ⟨fun M hM => ?_, fun M hM => ?_⟩
          · have h1 := merged_len hM
            simp at h1
            omega
          · have h1 := merged_len hM
            simp at h1
            omega)
        clear hX hr hb hlX K0 K1 K2 N0 N1 N2 NX
        go_wp2_with (fail)
        refine (merge_three PC _ S1.out.r2 S1.out.r0 S1.out.r1 NN.out.1).mono ?_
        rintro e w2 ⟨u, Y, rfl, hY, hr, hb⟩
        have hYX := ord_turned HX.out hY
        rw [hYX] at hr
        have R2 := Lib.hid hr
        have S2 : Hid (OrdS w (.slice A0 la.length c0) (.slice A1 lb.length c1) (.slice A2 lc.length c2) (.slice A X.length cx) la lb lc X w2) := Lib.hid (S1.out.on hb)
        clear hYX hY hr hb S1
        go_wp2_with (fail)
        refine (refSameP_yes _ _ X w2 R2.out S2.out.rx).mono ?_
        rintro e w3 ⟨rfl, hd⟩
        have S2' : Hid (OrdS w (.slice A0 la.length c0) (.slice A1 lb.length c1) (.slice A2 lc.length c2) (.slice A X.length cx) la lb lc X w3) := Lib.hid (by
          obtain ⟨m, rfl⟩ := hd
          exact S2.out.on (below_drewN (Below.refl _ _) m))
        clear hd S2 R2
        go_wp2_with (fail)
        refine (merge_two PC _ S2'.out.r0 S2'.out.r1 NN.out.2.1).mono ?_
        rintro e w4 ⟨u, Y, rfl, hY, hr, hb⟩
        obtain ⟨AM, cm, rfl, _⟩ := hr.form
        have HM := Lib.hid hY
        have RM := Lib.hid hr
        have S10 : Hid (OrdS w (.slice A0 la.length c0) (.slice A1 lb.length c1) (.slice A2 lc.length c2) (.slice A X.length cx) la lb lc X w4) := Lib.hid (S2'.out.on hb)
        clear hY hr hb S2'
        go_wp2_with (fail)
        refine (merge_two PC _ RM.out S10.out.r2 (NM.out.1 _ HM.out)).mono ?_
        rintro e w5 ⟨u, Y, rfl, hY, hr, hb⟩
        have hYX := ord_first HX.out HM.out hY
        rw [hYX] at hr
        have R3 := Lib.hid hr
        have S3 : Hid (OrdS w (.slice A0 la.length c0) (.slice A1 lb.length c1) (.slice A2 lc.length c2) (.slice A X.length cx) la lb lc X w5) := Lib.hid (S10.out.on hb)
        clear hYX hY hr hb S10 RM HM
        go_wp2_with (fail)
        refine (refSameP_yes _ _ X w5 R3.out S3.out.rx).mono ?_
        rintro e w6 ⟨rfl, hd⟩
        have S3' : Hid (OrdS w (.slice A0 la.length c0) (.slice A1 lb.length c1) (.slice A2 lc.length c2) (.slice A X.length cx) la lb lc X w6) := Lib.hid (by
          obtain ⟨m, rfl⟩ := hd
          exact S3.out.on (below_drewN (Below.refl _ _) m))
        clear hd S3 R3
        go_wp2_with (fail)
        refine (merge_two PC _ S3'.out.r2 S3'.out.r1 NN.out.2.2.1).mono ?_
        rintro e w7 ⟨u, Y, rfl, hY, hr, hb⟩
        obtain ⟨AM, cm, rfl, _⟩ := hr.form
        have HM := Lib.hid hY
        have RM := Lib.hid hr
        have S11 : Hid (OrdS w (.slice A0 la.length c0) (.slice A1 lb.length c1) (.slice A2 lc.length c2) (.slice A X.length cx) la lb lc X w7) := Lib.hid (S3'.out.on hb)
        clear hY hr hb S3'
        go_wp2_with (fail)
        refine (merge_two PC _ S11.out.r0 RM.out (NM.out.2 _ HM.out)).mono ?_
        rintro e w8 ⟨u, Y, rfl, hY, hr, hb⟩
        have hYX := ord_last HX.out HM.out hY
        rw [hYX] at hr
        have R4 := Lib.hid hr
        have S4 : Hid (OrdS w (.slice A0 la.length c0) (.slice A1 lb.length c1) (.slice A2 lc.length c2) (.slice A X.length cx) la lb lc X w8) := Lib.hid (S11.out.on hb)
        clear hYX hY hr hb S11 RM HM
        go_wp2_with (fail)
        refine (refSameP_yes _ _ X w8 R4.out S4.out.rx).mono ?_
        rintro e w9 ⟨rfl, hd⟩
        have S4' : Hid (OrdS w (.slice A0 la.length c0) (.slice A1 lb.length c1) (.slice A2 lc.length c2) (.slice A X.length cx) la lb lc X w9) := Lib.hid (by
          obtain ⟨m, rfl⟩ := hd
          exact S4.out.on (below_drewN (Below.refl _ _) m))
        clear hd S4 R4
        go_wp2_with (fail)
        refine (merge_two PC _ S4'.out.rx S4'.out.rx NN.out.2.2.2).mono ?_
        rintro e w10 ⟨u, Y, rfl, hY, hr, hb⟩
        have hYX := ord_again HX.out hY
        rw [hYX] at hr
        have R5 := Lib.hid hr
        have S5 : Hid (OrdS w (.slice A0 la.length c0) (.slice A1 lb.length c1) (.slice A2 lc.length c2) (.slice A X.length cx) la lb lc X w10) := Lib.hid (S4'.out.on hb)
        clear hYX hY hr hb S4'
        go_wp2_with (fail)
        refine (refSameP_yes _ _ X w10 R5.out S5.out.rx).mono ?_
        rintro e w11 ⟨rfl, hd⟩
        have S5' : Hid (OrdS w (.slice A0 la.length c0) (.slice A1 lb.length c1) (.slice A2 lc.length c2) (.slice A X.length cx) la lb lc X w11) := Lib.hid (by
          obtain ⟨m, rfl⟩ := hd
          exact S5.out.on (below_drewN (Below.refl _ _) m))
        clear hd S5 R5
        go_wp2_with (fail)
        refine pco_loop PC _ _ _ _ _ _ _ _ _ _ _ _ _ _ _ _ _ _ _ _ _ _ _ _ _ _ _ _ _ _ _ _ _ _ _ _ _ _ _ _ _ _ _ _ _ _ _ _ _ _ _ _ _ _ _ _ _ _ _ _ _ _ _ _ _ _ _ _ _ _ _ _ _ _ _ _ _ _ _ _ _ _ _ _ _ _ _ _ w _ _ _ la lb lc X A cx w11 S5' (Lib.hid HX.out.sorted) (Lib.hid ?_)
        intro u6 u66 u67 u68 u69 u70 u71 u72 u73 u74 u75 u76 u77 u78 u79 u80 u81 u82 y w12 S6
        go_wp2_with (fail)
        refine (PC.between _ X _ _ w12 S6.out.rx (by have := NN.out.2.2.2; omega) (by decide) (by decide)).mono ?_
        rintro e w13 ⟨u, rfl, hr, hb⟩
        rw [between_all S6.out.rx.ok] at hr
        have R7 := Lib.hid hr
        have S7 := Lib.hid (S6.out.on hb)
        clear hr hb S6
        go_wp2_with (fail)
        refine (refSameP_yes _ _ X w13 R7.out S7.out.rx).mono ?_
        rintro e w14 ⟨rfl, hd⟩
        have S8 : Hid (OrdS w (.slice A0 la.length c0) (.slice A1 lb.length c1) (.slice A2 lc.length c2) (.slice A X.length cx) la lb lc X w14) := Lib.hid (by
          obtain ⟨m, rfl⟩ := hd
          exact S7.out.on (below_drewN (Below.refl _ _) m))
        clear hd S7 R7
        go_wp2_with (fail)
        refine (HA.out _).mono ?_
        rintro e w15 ⟨rfl, hb⟩
        have S9 := Lib.hid (S8.out.on hb)
        clear hb S8
        go_wp2_with (fail)
        go_ret
        exact ⟨rfl, S9.out.old⟩
end Go.Proofs.Ythhojjdccfcicaa
