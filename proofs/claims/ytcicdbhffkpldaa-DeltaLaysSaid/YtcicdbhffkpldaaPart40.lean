/- Part 40 of the words that the laws share: DtChk. No condition of its own: each theorem says its own. -/
import Derived.Test.YtcicdbhffkpldaaPart31
import Derived.Test.YtcicdbhffkpldaaPart39
import Derived.Test.YtcicdbhffkpldaaPart19
import Derived.Deep.RegionHeld3

/- The developers' Check. Conditions: a row of pieces, at most 100000, their series at most 100000 bytes. -/
namespace Go.Proofs.Ytcicdbhffkpldaa
open Go.RowKit

theorem size_pc5 : (Try.prog.info? 46).map (·.size) = some 5 := siz_of info_pc5
noncomputable def body_dck : Code := (((Try.f10.body.map loopsOf).getD [])[0]?).getD .skip
set_option maxRecDepth 100000 in
set_option maxHeartbeats 8000000 in
theorem dck_loop (c1 c2 c3 c4 c5 c6 c7 c8 c9 c10 c11 c12 c16 c17 c18 c19 c20 c21 c22 c23 c24 c25 c26 c27 c28 c29 c30 c31 c32 c33 c34 c35 c36 c37 : Value) (w0 : World) (A : Option Addr) (c : Nat) (l : List Pc) (w : World) (h0 : Hid (RsP w0 (.slice A l.length c) l)) (hn : Hid (l.length ≤ 100000)) (hb : Hid (Below w0.heap.size w0 w)) {Q : Exit → Act → World → Prop}
    (HQ : Hid (∀ (u2 u3 u4 u16 u17 u18 u19 u20 u21 u22 u23 u24 u25 u26 u27 u28 u29 u30 u31 u32 u33 u34 u35 u36 u37 y : Value) (w' : World), Hid (RckS l l.length) → Hid (Below w0.heap.size w0 w') → Q (.exit 0) ⟨List.toArray ((.slice A l.length c) :: c1 :: u2 :: u3 :: u4 :: c5 :: c6 :: c7 :: c8 :: c9 :: c10 :: c11 :: c12 :: (.slice A l.length c) :: (.int .i64 (l.length : Int)) :: y :: u16 :: u17 :: u18 :: u19 :: u20 :: u21 :: u22 :: u23 :: u24 :: u25 :: u26 :: u27 :: u28 :: u29 :: u30 :: u31 :: u32 :: u33 :: u34 :: u35 :: u36 :: u37 :: []), []⟩ w'))
    (HE : Hid (∀ (u3 u4 u16 u17 u18 u19 u20 u21 u22 u23 u24 u25 u26 u27 u28 u29 u30 u31 u32 u33 u34 u35 u36 u37 y : Value) (w' : World), Hid (¬ ((∀ p ∈ l, p.may) ∧ l.Pairwise keyLt)) → Hid (Below w0.heap.size w0 w') → Q .ret ⟨List.toArray ((.slice A l.length c) :: c1 :: (.int .i64 1) :: u3 :: u4 :: c5 :: c6 :: c7 :: c8 :: c9 :: c10 :: c11 :: c12 :: (.slice A l.length c) :: (.int .i64 (l.length : Int)) :: y :: u16 :: u17 :: u18 :: u19 :: u20 :: u21 :: u22 :: u23 :: u24 :: u25 :: u26 :: u27 :: u28 :: u29 :: u30 :: u31 :: u32 :: u33 :: u34 :: u35 :: u36 :: u37 :: []), []⟩ w')) :
    (Code.loop body_dck).wp Try.prog Q ⟨List.toArray ((.slice A l.length c) :: c1 :: c2 :: c3 :: c4 :: c5 :: c6 :: c7 :: c8 :: c9 :: c10 :: c11 :: c12 :: (.slice A l.length c) :: (.int .i64 (l.length : Int)) :: (.int .i64 0) :: c16 :: c17 :: c18 :: c19 :: c20 :: c21 :: c22 :: c23 :: c24 :: c25 :: c26 :: c27 :: c28 :: c29 :: c30 :: c31 :: c32 :: c33 :: c34 :: c35 :: c36 :: c37 :: []), []⟩ w := by
  unfold body_dck
  conv => arg 2; arg 1; whnf
  go_loopw [15] (fun y wx => ∃ (j : Nat), y = .int .i64 (j : Int) ∧ j ≤ l.length ∧ RckS l j ∧ Below w0.heap.size w0 wx) (fun y _ => l.length - (intOf y).toNat)
  case atStart => exact ⟨0, rfl, Nat.zero_le _, ⟨fun i p h => by omega, fun i p q h => by omega⟩, hb.out⟩
  case round =>
    obtain ⟨j, rfl, hj, hck, hbw⟩ := hrel
    have hrs : RsP wr (.slice A l.length c) l := h0.out.below hbw
    have HCK := Lib.hid hck
    have hl := hn.out
    have pI : (l.length : Int) ≤ 9223372036854775807 := by omega
    by_cases hlt : j < l.length
    · have jI : (j : Int) < l.length := by omega
      have HLT := Lib.hid hlt
      obtain ⟨p, hp⟩ : ∃ p, l[j]? = some p := ⟨_, List.getElem?_eq_getElem hlt⟩
      obtain ⟨g, o, rfl, hg, hr, hok⟩ := hrs.at2 hp
      obtain ⟨k0, k1, k2, k3, k4⟩ := range5 hr
      obtain ⟨s, t, v, nn, oo⟩ := p
      simp only at k0 k1 k2 k3 k4
      have HC0 := fun W => chkP_any ⟨s, t, v, nn, oo⟩ W hok
      obtain ⟨W1, hW1⟩ : ∃ V, V = wr.alloc (.cells #[.string s, .int .i64 t, .int .i64 v, .int .u64 (nn : Int), .int .u16 (oo : Int)] 46) := ⟨_, rfl⟩
      have B1 : Hid (Below w0.heap.size w0 W1) := Lib.hid (by rw [hW1]; exact hbw.alloc hbw.size _)
      have HS0 : Hid (Below W1.heap.size W1 W1) := Lib.hid (Below.refl _ _)
      have X1 : Hid (Blk W1 wr.heap.size 46 [.string s, .int .i64 t, .int .i64 v, .int .u64 (nn : Int), .int .u16 (oo : Int)]) := Lib.hid (by rw [hW1]; exact Blk.made wr _ _)
      have ON : ∀ {V V' : World}, Below W1.heap.size W1 V → Below V.heap.size V V' → Below W1.heap.size W1 V' := fun {V V'} h h' => h.trans (h'.mono h.size)
      have SD : ∀ {V : World}, Below W1.heap.size W1 V → Below W1.heap.size W1 V.drew := fun h => ON h (below_drewN (Below.refl _ _) 1)
      have xr : ∀ W : World, Below W1.heap.size W1 W → W.rangeAt wr.heap.size 0 [.string s, .int .i64 t, .int .i64 v, .int .u64 (nn : Int), .int .u16 (oo : Int)] := fun W hW i u hu => by
        rw [Nat.zero_add, (X1.out.below hW X1.out.lt).cell]
        exact hu
      have DN : ∀ {V : World}, Below W1.heap.size W1 V → Below w0.heap.size w0 V := fun h => B1.out.trans (h.mono B1.out.size)
      by_cases hm : Pc.may ⟨s, t, v, nn, oo⟩
      · have HC : Hid (∀ W, Calls Try.prog 23 #[.agg #[.string s, .int .i64 t, .int .i64 v, .int .u64 (nn : Int), .int .u16 (oo : Int)]] W fun e W' => e = .returned (.int .i64 0) ∧ Below W.heap.size W W') := Lib.hid fun W => by
          have h1 := HC0 W
          rw [if_pos hm] at h1
          exact h1
        have HM := Lib.hid hm
        have HP := Lib.hid hp
        by_cases hj0 : j = 0
        · have HNX : Hid (RckS l (j + 1)) := Lib.hid (by
            have h1 := HP.out
            rw [hj0] at h1 ⊢
            exact RckS.first h1 HM.out)
          have jz1 : ¬ (0 : Int) < (j : Int) := by omega
          have jz2 : decide ((0 : Int) < (j : Int)) = false := decide_eq_false jz1
          have jz3 : decide (0 < j) = false := decide_eq_false (by omega)
          clear hj0 hp hm hr hok hbw hck hl hrs hg hlt hj HC0
          go_upto_region 6 with (fail)
          rw [← hW1]
          clear hW1 k0 k1 k2 k3 k4
          refine wp_region_noPanic ?_
          refine wp_region_held_drew (S := fun V => Below W1.heap.size W1 V) (by kernel_rfl) ?_ (fun hHeld => ?_)
          · (first | assumption | exact SD (by assumption))
          refine take_put (i := 0) (oi := _) (v := _) 20 rfl rfl (by kernel_rfl) (by kernel_rfl) (by kernel_rfl) (fun _ _ _ h => h) (yieldsIf_load_mid (by rfl) _ _ rfl wr.heap.size 0 rfl [.string s, .int .i64 t, .int .i64 v, .int .u64 (nn : Int), .int .u16 (oo : Int)] _ (fun W hW => xr W hW) Try.underlying46 rfl size_pc5) (by assumption) ?_
          simp only [List.set_cons_zero, List.set_cons_succ]
          refine wpAnyH_ready (rs := [1]) (by kernel_rfl) (by simp) ?_
          refine AllReadyH.cons (o := _) rfl (fun K hK => ?_) AllReadyH.nil
          go_simp
          (go_at_call 23; refine (HC.out _).mono ?_; rintro e v1 ⟨rfl, s1⟩; replace s1 := ON (by assumption) s1)
          refine hK.out _ _ ?_ (fun hHeld => ?_)
          · (first | assumption | exact SD (by assumption))
          clear hK K
          try simp only [Act.put, List.setIfInBounds_toArray, List.set_cons_zero, List.set_cons_succ]
          refine take_put (i := 2) (oi := _) (v := ?_) 22 rfl rfl (by kernel_rfl) (by kernel_rfl) (by kernel_rfl) (fun _ _ _ h => h) (Or.inl ⟨by rfl, ?hy2⟩) (by assumption) ?_
          case hy2 => ((intro W hSw); (try dsimp only at hSw); go_simp; try (with_reducible rfl))
          simp only [List.set_cons_zero, List.set_cons_succ]
          refine take_put (i := 3) (oi := _) (v := ?_) 23 rfl rfl (by kernel_rfl) (by kernel_rfl) (by kernel_rfl) (fun _ _ _ h => h) (Or.inl ⟨by rfl, ?hy3⟩) (by assumption) ?_
          case hy3 => ((intro W hSw); (try dsimp only at hSw); go_simp; try (with_reducible rfl))
          simp only [List.set_cons_zero, List.set_cons_succ]
          refine take_put (i := 4) (oi := _) (v := ?_) 24 rfl rfl (by kernel_rfl) (by kernel_rfl) (by kernel_rfl) (fun _ _ _ h => h) (Or.inl ⟨by rfl, ?hy4⟩) (by assumption) ?_
          case hy4 => ((intro W hSw); (try dsimp only at hSw); go_simp; try (with_reducible rfl))
          simp only [List.set_cons_zero, List.set_cons_succ]
          refine take_put (i := 5) (oi := _) (v := ?_) 25 rfl rfl (by kernel_rfl) (by kernel_rfl) (by kernel_rfl) (fun _ _ _ h => h) (Or.inl ⟨by rfl, ?hy5⟩) (by assumption) ?_
          case hy5 => ((intro W hSw); (try dsimp only at hSw); go_simp; try (with_reducible rfl))
          simp only [List.set_cons_zero, List.set_cons_succ]
          refine take_put (i := 6) (oi := _) (v := ?_) 26 rfl rfl (by kernel_rfl) (by kernel_rfl) (by kernel_rfl) (fun _ _ _ h => h) (Or.inl ⟨by rfl, ?hy6⟩) (by assumption) ?_
          case hy6 => ((intro W hSw); (try dsimp only at hSw); go_simp; try (with_reducible rfl))
          simp only [List.set_cons_zero, List.set_cons_succ]
          refine take_put (i := 7) (oi := _) (v := undef) 27 rfl rfl (by kernel_rfl) (by kernel_rfl) (by kernel_rfl) (fun _ _ _ h => h) (Or.inr ⟨by rfl, rfl⟩) (by assumption) ?_
          simp only [List.set_cons_zero, List.set_cons_succ]
          refine take_put (i := 8) (oi := _) (v := undef) 28 rfl rfl (by kernel_rfl) (by kernel_rfl) (by kernel_rfl) (fun _ _ _ h => h) (Or.inr ⟨by rfl, rfl⟩) (by assumption) ?_
          simp only [List.set_cons_zero, List.set_cons_succ]
          refine take_put (i := 9) (oi := _) (v := undef) 29 rfl rfl (by kernel_rfl) (by kernel_rfl) (by kernel_rfl) (fun _ _ _ h => h) (Or.inr ⟨by rfl, rfl⟩) (by assumption) ?_
          simp only [List.set_cons_zero, List.set_cons_succ]
          refine take_put (i := 10) (oi := _) (v := undef) 30 rfl rfl (by kernel_rfl) (by kernel_rfl) (by kernel_rfl) (fun _ _ _ h => h) (Or.inr ⟨by rfl, rfl⟩) (by assumption) ?_
          simp only [List.set_cons_zero, List.set_cons_succ]
          refine take_put (i := 11) (oi := _) (v := undef) 31 rfl rfl (by kernel_rfl) (by kernel_rfl) (by kernel_rfl) (fun _ _ _ h => h) (Or.inr ⟨by rfl, rfl⟩) (by assumption) ?_
          simp only [List.set_cons_zero, List.set_cons_succ]
          refine take_put (i := 12) (oi := _) (v := undef) 32 rfl rfl (by kernel_rfl) (by kernel_rfl) (by kernel_rfl) (fun _ _ _ h => h) (Or.inr ⟨by rfl, rfl⟩) (by assumption) ?_
          simp only [List.set_cons_zero, List.set_cons_succ]
          refine take_put (i := 13) (oi := _) (v := undef) 33 rfl rfl (by kernel_rfl) (by kernel_rfl) (by kernel_rfl) (fun _ _ _ h => h) (Or.inr ⟨by rfl, rfl⟩) (by assumption) ?_
          simp only [List.set_cons_zero, List.set_cons_succ]
          refine take_put (i := 14) (oi := _) (v := undef) 34 rfl rfl (by kernel_rfl) (by kernel_rfl) (by kernel_rfl) (fun _ _ _ h => h) (Or.inr ⟨by rfl, rfl⟩) (by assumption) ?_
          simp only [List.set_cons_zero, List.set_cons_succ]
          refine take_put (i := 15) (oi := _) (v := ?_) 35 rfl rfl (by kernel_rfl) (by kernel_rfl) (by kernel_rfl) (fun _ _ _ h => h) (Or.inl ⟨by rfl, ?hy15⟩) (by assumption) ?_
          case hy15 => ((intro W hSw); (try dsimp only at hSw); go_simp; try (with_reducible rfl))
          simp only [List.set_cons_zero, List.set_cons_succ]
          refine take_put (i := 16) (oi := _) (v := ?_) 36 rfl rfl (by kernel_rfl) (by kernel_rfl) (by kernel_rfl) (fun _ _ _ h => h) (Or.inl ⟨by rfl, ?hy16⟩) (by assumption) ?_
          case hy16 => ((intro W hSw); (try dsimp only at hSw); go_simp; try (with_reducible rfl))
          simp only [List.set_cons_zero, List.set_cons_succ]
          refine wpAnyH_done (by kernel_rfl) ?_ _
          refine NoPanic.normal ?_
          go_wp2_with (fail)
          refine ⟨⟨j + 1, by go_num, by have := HLT.out; omega, HNX.out, DN ?_⟩, by simp [intOf]; have := HLT.out; omega⟩
          first | assumption | exact SD (by assumption)
        · obtain ⟨k, hjk⟩ : ∃ k, j = k + 1 := ⟨j - 1, by omega⟩
          have jw : IntKind.i64.wrap ((j : Int) - 1) = (k : Int) := by
            rw [IntWalk.i64_in _ (by omega)]
            omega
          have kI : (k : Int) < l.length := by omega
          have jp : (0 : Int) < (j : Int) := by omega
          have jp2 : 0 < j := by omega
          have jp3 : decide (0 < j) = true := decide_eq_true jp2
          have jp4 : decide ((0 : Int) < (j : Int)) = true := decide_eq_true jp
          obtain ⟨q, hq⟩ : ∃ q, l[k]? = some q := ⟨_, List.getElem?_eq_getElem (by omega)⟩
          obtain ⟨g2, o2, he2, hg2, hr2, _⟩ := hrs.at2 hq
          obtain ⟨rfl, rfl⟩ : g = g2 ∧ o = o2 := by
            injection he2 with he2
            injection he2 with h1 h2
            exact ⟨h1, h2⟩
          obtain ⟨s', t', v', n', o'⟩ := q
          have hr3 : W1.rangeAt g (o + k * 5) [.string s', .int .i64 t', .int .i64 v', .int .u64 (n' : Int), .int .u16 (o' : Int)] := by rw [hW1]; exact World.rangeAt_alloc hr2 _
          have hgW : g < W1.heap.size := by rw [hW1, World.size_alloc]; omega
          have yr : ∀ W : World, Below W1.heap.size W1 W → W.rangeAt g (o + k * 5) [.string s', .int .i64 t', .int .i64 v', .int .u64 (n' : Int), .int .u16 (o' : Int)] := fun W hW => range_below hr3 hgW hW
          have HNX : Hid (folB ⟨s', t', v', n', o'⟩ ⟨s, t, v, nn, oo⟩ = true → RckS l (j + 1)) := Lib.hid fun h => by
            have h := (folB_iff _ _).1 h
            subst hjk
            exact HCK.out.next hq hp hm h
          have HNO : Hid (folB ⟨s', t', v', n', o'⟩ ⟨s, t, v, nn, oo⟩ = false → ¬ ((∀ p ∈ l, p.may) ∧ l.Pairwise keyLt)) := Lib.hid fun h => by
            subst hjk
            refine not_ord hq hp fun e => ?_
            rw [(folB_iff _ _).2 e] at h
            cases h
          obtain ⟨b, hb⟩ : ∃ b, b = folB ⟨s', t', v', n', o'⟩ ⟨s, t, v, nn, oo⟩ := ⟨_, rfl⟩
          rw [← hb] at HNX HNO
          have HF0 := fun W => follows_any ⟨s', t', v', n', o'⟩ ⟨s, t, v, nn, oo⟩ W
          rw [← hb] at HF0
          have HF : Hid (∀ W, Calls Try.prog 24 #[.agg #[.string s', .int .i64 t', .int .i64 v', .int .u64 (n' : Int), .int .u16 (o' : Int)], .agg #[.string s, .int .i64 t, .int .i64 v, .int .u64 (nn : Int), .int .u16 (oo : Int)]] W fun e W' => e = .returned (.bool b) ∧ Below W.heap.size W W') := Lib.hid HF0
          clear hb HF0 hr3 hgW hr2 he2 hg2 hq hp hm hr hok hbw hck hl hrs hg hlt hj HC0 hjk hj0 HM HP HCK
          go_upto_region 6 with (fail)
          rw [← hW1]
          clear hW1 k0 k1 k2 k3 k4
          refine wp_region_noPanic ?_
          refine wp_region_held_drew (S := fun V => Below W1.heap.size W1 V) (by kernel_rfl) ?_ (fun hHeld => ?_)
          · (first | assumption | exact SD (by assumption))
          refine take_put (i := 0) (oi := _) (v := _) 20 rfl rfl (by kernel_rfl) (by kernel_rfl) (by kernel_rfl) (fun _ _ _ h => h) (yieldsIf_load_mid (by rfl) _ _ rfl wr.heap.size 0 rfl [.string s, .int .i64 t, .int .i64 v, .int .u64 (nn : Int), .int .u16 (oo : Int)] _ (fun W hW => xr W hW) Try.underlying46 rfl size_pc5) (by assumption) ?_
          simp only [List.set_cons_zero, List.set_cons_succ]
          refine wpAnyH_ready (rs := [1]) (by kernel_rfl) (by simp) ?_
          refine AllReadyH.cons (o := _) rfl (fun K hK => ?_) AllReadyH.nil
          go_simp
          (go_at_call 23; refine (HC.out _).mono ?_; rintro e v1 ⟨rfl, s1⟩; replace s1 := ON (by assumption) s1)
          refine hK.out _ _ ?_ (fun hHeld => ?_)
          · (first | assumption | exact SD (by assumption))
          clear hK K
          try simp only [Act.put, List.setIfInBounds_toArray, List.set_cons_zero, List.set_cons_succ]
          refine take_put (i := 2) (oi := _) (v := ?_) 22 rfl rfl (by kernel_rfl) (by kernel_rfl) (by kernel_rfl) (fun _ _ _ h => h) (Or.inl ⟨by rfl, ?hy2⟩) (by assumption) ?_
          case hy2 => ((intro W hSw); (try dsimp only at hSw); go_simp; try (with_reducible rfl))
          simp only [List.set_cons_zero, List.set_cons_succ]
          refine take_put (i := 3) (oi := _) (v := ?_) 23 rfl rfl (by kernel_rfl) (by kernel_rfl) (by kernel_rfl) (fun _ _ _ h => h) (Or.inl ⟨by rfl, ?hy3⟩) (by assumption) ?_
          case hy3 => ((intro W hSw); (try dsimp only at hSw); go_simp; try (with_reducible rfl))
          simp only [List.set_cons_zero, List.set_cons_succ]
          refine take_put (i := 4) (oi := _) (v := ?_) 24 rfl rfl (by kernel_rfl) (by kernel_rfl) (by kernel_rfl) (fun _ _ _ h => h) (Or.inl ⟨by rfl, ?hy4⟩) (by assumption) ?_
          case hy4 => ((intro W hSw); (try dsimp only at hSw); go_simp; try (with_reducible rfl))
          simp only [List.set_cons_zero, List.set_cons_succ]
          refine take_put (i := 5) (oi := _) (v := ?_) 25 rfl rfl (by kernel_rfl) (by kernel_rfl) (by kernel_rfl) (fun _ _ _ h => h) (Or.inl ⟨by rfl, ?hy5⟩) (by assumption) ?_
          case hy5 => ((intro W hSw); (try dsimp only at hSw); go_simp; try (with_reducible rfl))
          simp only [List.set_cons_zero, List.set_cons_succ]
          refine take_put (i := 6) (oi := _) (v := ?_) 26 rfl rfl (by kernel_rfl) (by kernel_rfl) (by kernel_rfl) (fun _ _ _ h => h) (Or.inl ⟨by rfl, ?hy6⟩) (by assumption) ?_
          case hy6 => ((intro W hSw); (try dsimp only at hSw); go_simp; try (with_reducible rfl))
          simp only [List.set_cons_zero, List.set_cons_succ]
          refine take_put (i := 7) (oi := _) (v := ?_) 27 rfl rfl (by kernel_rfl) (by kernel_rfl) (by kernel_rfl) (fun _ _ _ h => h) (Or.inl ⟨by rfl, ?hy7⟩) (by assumption) ?_
          case hy7 => ((intro W hSw); (try dsimp only at hSw); go_simp; try (with_reducible rfl))
          simp only [List.set_cons_zero, List.set_cons_succ]
          refine take_put (i := 8) (oi := _) (v := ?_) 28 rfl rfl (by kernel_rfl) (by kernel_rfl) (by kernel_rfl) (fun _ _ _ h => h) (Or.inl ⟨by rfl, ?hy8⟩) (by assumption) ?_
          case hy8 => ((intro W hSw); (try dsimp only at hSw); go_simp; try (with_reducible rfl))
          simp only [List.set_cons_zero, List.set_cons_succ]
          refine take_put (i := 9) (oi := _) (v := ?_) 29 rfl rfl (by kernel_rfl) (by kernel_rfl) (by kernel_rfl) (fun _ _ _ h => h) (Or.inl ⟨by rfl, ?hy9⟩) (by assumption) ?_
          case hy9 => ((intro W hSw); (try dsimp only at hSw); go_simp; try (with_reducible rfl))
          simp only [List.set_cons_zero, List.set_cons_succ]
          refine take_put (i := 10) (oi := _) (v := ?_) 30 rfl rfl (by kernel_rfl) (by kernel_rfl) (by kernel_rfl) (fun _ _ _ h => h) (Or.inl ⟨by rfl, ?hy10⟩) (by assumption) ?_
          case hy10 => ((intro W hSw); (try dsimp only at hSw); go_simp; try (with_reducible rfl))
          simp only [List.set_cons_zero, List.set_cons_succ]
          refine take_put (i := 11) (oi := _) (v := _) 31 rfl rfl (by kernel_rfl) (by kernel_rfl) (by kernel_rfl) (fun _ _ _ h => h) (yieldsIf_load_mid (by rfl) _ _ rfl g (o + k * 5) rfl [.string s', .int .i64 t', .int .i64 v', .int .u64 (n' : Int), .int .u16 (o' : Int)] _ (fun W hW => yr W hW) Try.underlying46 rfl size_pc5) (by assumption) ?_
          simp only [List.set_cons_zero, List.set_cons_succ]
          refine take_put (i := 12) (oi := _) (v := _) 32 rfl rfl (by kernel_rfl) (by kernel_rfl) (by kernel_rfl) (fun _ _ _ h => h) (yieldsIf_load_mid (by rfl) _ _ rfl wr.heap.size 0 rfl [.string s, .int .i64 t, .int .i64 v, .int .u64 (nn : Int), .int .u16 (oo : Int)] _ (fun W hW => xr W hW) Try.underlying46 rfl size_pc5) (by assumption) ?_
          simp only [List.set_cons_zero, List.set_cons_succ]
          refine wpAnyH_ready (rs := [13]) (by kernel_rfl) (by simp) ?_
          refine AllReadyH.cons (o := _) rfl (fun K hK => ?_) AllReadyH.nil
          go_simp
          (go_at_call 24; refine (HF.out _).mono ?_; rintro e v2 ⟨rfl, s2⟩; replace s2 := ON (by assumption) s2)
          refine hK.out _ _ ?_ (fun hHeld => ?_)
          · (first | assumption | exact SD (by assumption))
          clear hK K
          try simp only [Act.put, List.setIfInBounds_toArray, List.set_cons_zero, List.set_cons_succ]
          refine take_put (i := 14) (oi := _) (v := ?_) 34 rfl rfl (by kernel_rfl) (by kernel_rfl) (by kernel_rfl) (fun _ _ _ h => h) (Or.inl ⟨by rfl, ?hy14⟩) (by assumption) ?_
          case hy14 => ((intro W hSw); (try dsimp only at hSw); go_simp; try (with_reducible rfl))
          simp only [List.set_cons_zero, List.set_cons_succ]
          refine take_put (i := 15) (oi := _) (v := ?_) 35 rfl rfl (by kernel_rfl) (by kernel_rfl) (by kernel_rfl) (fun _ _ _ h => h) (Or.inl ⟨by rfl, ?hy15⟩) (by assumption) ?_
          case hy15 => ((intro W hSw); (try dsimp only at hSw); go_simp; try (with_reducible rfl))
          simp only [List.set_cons_zero, List.set_cons_succ]
          refine take_put (i := 16) (oi := _) (v := ?_) 36 rfl rfl (by kernel_rfl) (by kernel_rfl) (by kernel_rfl) (fun _ _ _ h => h) (Or.inl ⟨by rfl, ?hy16⟩) (by assumption) ?_
          case hy16 => ((intro W hSw); (try dsimp only at hSw); go_simp; try (with_reducible rfl))
          simp only [List.set_cons_zero, List.set_cons_succ]
          refine wpAnyH_done (by kernel_rfl) ?_ _
          refine NoPanic.normal ?_
          cases b with
          | true =>
            go_wp2_with (fail)
            refine ⟨⟨j + 1, by go_num, by have := HLT.out; omega, HNX.out (by trivial), DN ?_⟩, by simp [intOf]; have := HLT.out; omega⟩
            first | assumption | exact SD (by assumption)
          | false =>
            go_wp2_with (fail)
            exact HE.out _ _ _ _ _ _ _ _ _ _ _ _ _ _ _ _ _ _ _ _ _ _ _ _ _ _ (Lib.hid (HNO.out (by trivial))) (Lib.hid (DN (by first | assumption | exact SD (by assumption))))
      · have HC : Hid (∀ W, Calls Try.prog 23 #[.agg #[.string s, .int .i64 t, .int .i64 v, .int .u64 (nn : Int), .int .u16 (oo : Int)]] W fun e W' => e = .returned (.int .i64 1) ∧ Below W.heap.size W W') := Lib.hid fun W => by
          have h1 := HC0 W
          rw [if_neg hm] at h1
          exact h1
        have HNO := Lib.hid (not_may hp hm)
        clear hp hm hr hok hbw hck hl hrs hg hlt hj HC0
        go_upto_region 6 with (fail)
        rw [← hW1]
        clear hW1 k0 k1 k2 k3 k4
        refine wp_region_noPanic ?_
        refine wp_region_held_drew (S := fun V => Below W1.heap.size W1 V) (by kernel_rfl) ?_ (fun hHeld => ?_)
        · (first | assumption | exact SD (by assumption))
        refine take_put (i := 0) (oi := _) (v := _) 20 rfl rfl (by kernel_rfl) (by kernel_rfl) (by kernel_rfl) (fun _ _ _ h => h) (yieldsIf_load_mid (by rfl) _ _ rfl wr.heap.size 0 rfl [.string s, .int .i64 t, .int .i64 v, .int .u64 (nn : Int), .int .u16 (oo : Int)] _ (fun W hW => xr W hW) Try.underlying46 rfl size_pc5) (by assumption) ?_
        simp only [List.set_cons_zero, List.set_cons_succ]
        refine wpAnyH_ready (rs := [1]) (by kernel_rfl) (by simp) ?_
        refine AllReadyH.cons (o := _) rfl (fun K hK => ?_) AllReadyH.nil
        go_simp
        (go_at_call 23; refine (HC.out _).mono ?_; rintro e v1 ⟨rfl, s1⟩; replace s1 := ON (by assumption) s1)
        refine hK.out _ _ ?_ (fun hHeld => ?_)
        · (first | assumption | exact SD (by assumption))
        clear hK K
        try simp only [Act.put, List.setIfInBounds_toArray, List.set_cons_zero, List.set_cons_succ]
        refine take_put (i := 2) (oi := _) (v := ?_) 22 rfl rfl (by kernel_rfl) (by kernel_rfl) (by kernel_rfl) (fun _ _ _ h => h) (Or.inl ⟨by rfl, ?hy2⟩) (by assumption) ?_
        case hy2 => ((intro W hSw); (try dsimp only at hSw); go_simp; try (with_reducible rfl))
        simp only [List.set_cons_zero, List.set_cons_succ]
        refine take_put (i := 3) (oi := _) (v := ?_) 23 rfl rfl (by kernel_rfl) (by kernel_rfl) (by kernel_rfl) (fun _ _ _ h => h) (Or.inl ⟨by rfl, ?hy3⟩) (by assumption) ?_
        case hy3 => ((intro W hSw); (try dsimp only at hSw); go_simp; try (with_reducible rfl))
        simp only [List.set_cons_zero, List.set_cons_succ]
        refine take_put (i := 4) (oi := _) (v := undef) 24 rfl rfl (by kernel_rfl) (by kernel_rfl) (by kernel_rfl) (fun _ _ _ h => h) (Or.inr ⟨by rfl, rfl⟩) (by assumption) ?_
        simp only [List.set_cons_zero, List.set_cons_succ]
        refine take_put (i := 5) (oi := _) (v := undef) 25 rfl rfl (by kernel_rfl) (by kernel_rfl) (by kernel_rfl) (fun _ _ _ h => h) (Or.inr ⟨by rfl, rfl⟩) (by assumption) ?_
        simp only [List.set_cons_zero, List.set_cons_succ]
        refine take_put (i := 6) (oi := _) (v := undef) 26 rfl rfl (by kernel_rfl) (by kernel_rfl) (by kernel_rfl) (fun _ _ _ h => h) (Or.inr ⟨by rfl, rfl⟩) (by assumption) ?_
        simp only [List.set_cons_zero, List.set_cons_succ]
        refine take_put (i := 7) (oi := _) (v := undef) 27 rfl rfl (by kernel_rfl) (by kernel_rfl) (by kernel_rfl) (fun _ _ _ h => h) (Or.inr ⟨by rfl, rfl⟩) (by assumption) ?_
        simp only [List.set_cons_zero, List.set_cons_succ]
        refine take_put (i := 8) (oi := _) (v := undef) 28 rfl rfl (by kernel_rfl) (by kernel_rfl) (by kernel_rfl) (fun _ _ _ h => h) (Or.inr ⟨by rfl, rfl⟩) (by assumption) ?_
        simp only [List.set_cons_zero, List.set_cons_succ]
        refine take_put (i := 9) (oi := _) (v := undef) 29 rfl rfl (by kernel_rfl) (by kernel_rfl) (by kernel_rfl) (fun _ _ _ h => h) (Or.inr ⟨by rfl, rfl⟩) (by assumption) ?_
        simp only [List.set_cons_zero, List.set_cons_succ]
        refine take_put (i := 10) (oi := _) (v := undef) 30 rfl rfl (by kernel_rfl) (by kernel_rfl) (by kernel_rfl) (fun _ _ _ h => h) (Or.inr ⟨by rfl, rfl⟩) (by assumption) ?_
        simp only [List.set_cons_zero, List.set_cons_succ]
        refine take_put (i := 11) (oi := _) (v := undef) 31 rfl rfl (by kernel_rfl) (by kernel_rfl) (by kernel_rfl) (fun _ _ _ h => h) (Or.inr ⟨by rfl, rfl⟩) (by assumption) ?_
        simp only [List.set_cons_zero, List.set_cons_succ]
        refine take_put (i := 12) (oi := _) (v := undef) 32 rfl rfl (by kernel_rfl) (by kernel_rfl) (by kernel_rfl) (fun _ _ _ h => h) (Or.inr ⟨by rfl, rfl⟩) (by assumption) ?_
        simp only [List.set_cons_zero, List.set_cons_succ]
        refine take_put (i := 13) (oi := _) (v := undef) 33 rfl rfl (by kernel_rfl) (by kernel_rfl) (by kernel_rfl) (fun _ _ _ h => h) (Or.inr ⟨by rfl, rfl⟩) (by assumption) ?_
        simp only [List.set_cons_zero, List.set_cons_succ]
        refine take_put (i := 14) (oi := _) (v := undef) 34 rfl rfl (by kernel_rfl) (by kernel_rfl) (by kernel_rfl) (fun _ _ _ h => h) (Or.inr ⟨by rfl, rfl⟩) (by assumption) ?_
        simp only [List.set_cons_zero, List.set_cons_succ]
        refine take_put (i := 15) (oi := _) (v := undef) 35 rfl rfl (by kernel_rfl) (by kernel_rfl) (by kernel_rfl) (fun _ _ _ h => h) (Or.inr ⟨by rfl, rfl⟩) (by assumption) ?_
        simp only [List.set_cons_zero, List.set_cons_succ]
        refine take_put (i := 16) (oi := _) (v := ?_) 36 rfl rfl (by kernel_rfl) (by kernel_rfl) (by kernel_rfl) (fun _ _ _ h => h) (Or.inl ⟨by rfl, ?hy16⟩) (by assumption) ?_
        case hy16 => ((intro W hSw); (try dsimp only at hSw); go_simp; try (with_reducible rfl))
        simp only [List.set_cons_zero, List.set_cons_succ]
        refine wpAnyH_done (by kernel_rfl) ?_ _
        refine NoPanic.normal ?_
        go_wp2_with (fail)
        exact HE.out _ _ _ _ _ _ _ _ _ _ _ _ _ _ _ _ _ _ _ _ _ _ _ _ _ _ (Lib.hid HNO.out) (Lib.hid (DN (by first | assumption | exact SD (by assumption))))
    · have jI : ¬ (j : Int) < l.length := by omega
      have e : j = l.length := by omega
      subst e
      have HB := Lib.hid hbw
      clear hbw hrs hl hj hlt hck
      go_wp2_with (fail)
      exact HQ.out _ _ _ _ _ _ _ _ _ _ _ _ _ _ _ _ _ _ _ _ _ _ _ _ _ _ _ HCK HB
set_option maxRecDepth 100000 in
set_option maxHeartbeats 4000000 in
theorem check_any (v : Value) (l : List Pc) (w : World) (h : RsP w v l) (hn : l.length ≤ 100000) (hs : ∀ p ∈ l, p.s.size ≤ 100000) :
    Calls Try.prog 10 #[v] w fun e w' => e = .returned (.int .i64 (checkD l : Int)) ∧ Below w.heap.size w w' := by
  have HR := room_any v l w h hn hs
  obtain ⟨A, c, rfl, _⟩ := h.form
  have hd : roomD l ≤ 4 + 100038 * 100000 := by
    unfold roomD
    have := roomR_leG 100000 none l hs
    have h2 : 100038 * l.length ≤ 100038 * 100000 := Nat.mul_le_mul_left _ hn
    omega
  have H := Lib.hid h
  have HN := Lib.hid hn
  have pI : (l.length : Int) ≤ 9223372036854775807 := by omega
  by_cases h1 : 256 < l.length
  · have e1 : checkD l = 3 := by unfold checkD; rw [if_pos (.inl h1)]
    rw [e1]
    have g1 : (256 : Int) < l.length := by omega
    have g2 : decide ((256 : Int) < l.length) = true := decide_eq_true g1
    have g3 : decide (256 < l.length) = true := decide_eq_true h1
    clear e1 hd h hn hs HR
    go_enter Try.func10, Try.ntmps10
    go_wp2_with (fail)
    go_ret
    exact ⟨rfl, Below.refl _ _⟩
  · have g1 : ¬ (256 : Int) < l.length := by omega
    have g2 : decide ((256 : Int) < l.length) = false := decide_eq_false g1
    have g3 : decide (256 < l.length) = false := decide_eq_false h1
    by_cases h2 : 4096 < roomD l
    · have e1 : checkD l = 3 := by unfold checkD; rw [if_pos (.inr h2)]
      rw [e1]
      obtain ⟨r, hr⟩ : ∃ r, r = roomD l := ⟨_, rfl⟩
      rw [← hr] at HR h2 hd
      have r1 : (4096 : Int) < r := by omega
      have r2 : decide ((4096 : Int) < r) = true := decide_eq_true r1
      have r3 : decide (4096 < r) = true := decide_eq_true h2
      have HR2 := Lib.hid HR
      clear e1 hd h hn hs HR hr h1
      go_enter Try.func10, Try.ntmps10
      go_wp2_with (fail)
      refine HR2.out.mono ?_
      rintro e w2 ⟨rfl, hb⟩
      have HB := Lib.hid hb
      clear hb HR2
      go_wp2_with (fail)
      go_ret
      exact ⟨rfl, HB.out⟩
    · have HA : Hid (RckS l l.length → checkD l = 0) := Lib.hid fun h => h.all (by omega)
      have HZ : Hid (¬ ((∀ p ∈ l, p.may) ∧ l.Pairwise keyLt) → checkD l = 1) := Lib.hid fun h => check_no (by omega) h
      obtain ⟨z, hz⟩ : ∃ z, z = checkD l := ⟨_, rfl⟩
      rw [← hz] at HA HZ ⊢
      obtain ⟨r, hr⟩ : ∃ r, r = roomD l := ⟨_, rfl⟩
      rw [← hr] at HR h2 hd
      have r1 : ¬ (4096 : Int) < r := by omega
      have r2 : decide ((4096 : Int) < r) = false := decide_eq_false r1
      have r3 : decide (4096 < r) = false := decide_eq_false h2
      have HR2 := Lib.hid HR
      clear hd h hn hs HR hr h1 hz
      go_enter Try.func10, Try.ntmps10
      go_wp2_with (fail)
      refine HR2.out.mono ?_
      rintro e w2 ⟨rfl, hb⟩
      have HB := Lib.hid hb
      clear hb HR2
      go_wp2_with (fail)
      refine dck_loop _ _ _ _ _ _ _ _ _ _ _ _ _ _ _ _ _ _ _ _ _ _ _ _ _ _ _ _ _ _ _ _ _ _ w A c l w2 H HN HB (Lib.hid ?_) (Lib.hid ?_)
      · intro u2 u3 u4 u16 u17 u18 u19 u20 u21 u22 u23 u24 u25 u26 u27 u28 u29 u30 u31 u32 u33 u34 u35 u36 u37 y w' HC HB2
        have hz := HA.out HC.out
        subst hz
        go_wp2_with (fail)
        go_ret
        exact ⟨rfl, HB2.out⟩
      · intro u3 u4 u16 u17 u18 u19 u20 u21 u22 u23 u24 u25 u26 u27 u28 u29 u30 u31 u32 u33 u34 u35 u36 u37 y w' HC HB2
        have hz := HZ.out HC.out
        subst hz
        go_wp2_with (fail)
        go_ret
        exact ⟨rfl, HB2.out⟩
end Go.Proofs.Ytcicdbhffkpldaa
