/- The developers' questionsOf. Condition: the text may be. -/
import Derived.Test.YtckgpocfcanokaaLkQs
import Derived.Laws.EntriesVeiled
namespace Go.Proofs.Ytckgpocfcanokaa
open Go.RowKit

theorem qok_wf {q : Qu} (h : QOk q) : q.n.size ≤ maxLen ∧ q.v.size ≤ maxLen ∧ (Lit.int .i64 q.g).wf = true := by
  have hs : ∀ s : ByteArray, wordB s.toList = true → s.size ≤ maxLen := fun s hw => by
    unfold wordB at hw
    simp only [Bool.and_eq_true, decide_eq_true_eq] at hw
    rw [← bl_size]
    unfold maxLen
    omega
  refine ⟨hs _ h.n, hs _ h.v, ?_⟩
  rcases h.g with e | e | e <;> (rw [e]; decide)
theorem ownR_mono {n : Nat} {w : World} {base base' : Nat} {e : TypeId} {v : Value} {R : List (List Value)} (h : OwnR n w base e v R) (hb : base' ≤ base) : OwnR n w base' e v R := by
  refine ⟨h.1, ?_⟩
  rcases h.2 with ⟨h1, h2 | ⟨g, cap, cur, rfl, h3, hg, h4⟩⟩
  · exact ⟨h1, .inl h2⟩
  · exact ⟨h1, .inr ⟨g, cap, cur, rfl, by omega, hg, h4⟩⟩
/-- What is answered: a row of the call's own, of questions that may be. -/
structure QA (w0 w : World) (v : Value) (l : List Qu) : Prop where
  own : OwnR 3 w w0.heap.size 41 v (l.map quV)
  ok : ∀ q ∈ l, QOk q
theorem QL.qa {w0 w : World} {X Z S : Nat} {v : Value} {l : List Qu} {b : ByteArray} {g : Bool} (h : QL w0 w X Z S v l b g) : QA w0 w v l :=
  ⟨ownR_mono h.own (by have := h.lt.1; have := h.q.ge.1; omega), h.ok⟩
theorem QA.rsq {w0 w : World} {v : Value} {l : List Qu} (h : QA w0 w v l) (hl : l.length ≤ 8) : RsQu w v l :=
  ⟨ownR_rsE h.own (by rw [List.length_map]; unfold maxLen; omega), fun q hq => qok_wf (h.ok q hq)⟩
theorem QA.bel {w0 w w' : World} {v : Value} {l : List Qu} (h : QA w0 w v l) (hb : Below w.heap.size w w') : QA w0 w' v l := ⟨ownR_belK h.own hb, h.ok⟩
theorem QA.mono {w0 w1 w : World} {v : Value} {l : List Qu} (h : QA w1 w v l) (hs : w0.heap.size ≤ w1.heap.size) : QA w0 w v l := ⟨ownR_mono h.own hs, h.ok⟩
theorem QA.chg {w0 w w' : World} {v : Value} {l : List Qu} (h : QA w0 w v l) {F : Nat → Prop} (hc : Chg F w w') (hF : ∀ k, F k → k < w0.heap.size) : QA w0 w' v l :=
  ⟨hc.ownR h.own fun k hk e => by have h1 := (h.own.lt k hk).1; have h2 := hF k e; omega, h.ok⟩
set_option maxRecDepth 100000 in
set_option maxHeartbeats 4000000 in
theorem questions_any (s : ByteArray) (w : World) (hm : s.size ≤ maxLen) :
    Calls Try.prog 27 #[.string s] w fun e w' => ∃ (v : Value) (l : List Qu) (g : Bool), e = .returned (.tuple #[v, .bool g]) ∧ QA w w' v l ∧ RdQs s.toList l g ∧ Below w.heap.size w w' := by
  have HC := Lib.hid (cutPre_any s ⟨#[123]⟩ w)
  have MK := Lib.hid (mark_pre (b := s) (c := 123) (p := ⟨#[123]⟩) (by rw [ByteArray.toList_eq]))
  have HB0 : Hid ((cutS s ⟨#[123]⟩).size ≤ maxLen) := Lib.hid (Nat.le_trans (cutS_size _ _) hm)
  obtain ⟨g0, hg0⟩ : ∃ p, p = preB ⟨#[123]⟩ s := ⟨_, rfl⟩
  obtain ⟨b0, hb0⟩ : ∃ b, b = cutS s ⟨#[123]⟩ := ⟨_, rfl⟩
  rw [← hg0, ← hb0] at HC MK
  rw [← hb0] at HB0
  clear hg0 hb0 hm
  go_enter Try.func27, Try.ntmps27
  go_wp2_with (fail)
  go_step3
  go_wp2_with (fail)
  refine HC.out.mono ?_
  rintro e w1 ⟨rfl, hw1⟩
  replace hw1 := hw1.symm
  subst hw1
  go_upto_region 3 with (fail)
  obtain ⟨X, hX⟩ : ∃ X, X = w.heap.size := ⟨_, rfl⟩
  obtain ⟨Z, hZ⟩ : ∃ Z, Z = w.heap.size + 1 := ⟨_, rfl⟩
  obtain ⟨W1, hW1⟩ : ∃ W : World, W = (w.alloc (.cells #[.string b0] 9)).alloc (.cells #[.bool g0] 4) := ⟨_, rfl⟩
  have S0 : (w.alloc (.cells #[.string b0] 9)).heap.size = Z := by rw [hZ]; simp
  have S1 : Hid (W1.heap.size = Z + 1) := Lib.hid (by rw [hW1]; simp [hZ])
  have Q1 : Hid (QV w W1 X Z b0 g0) := Lib.hid ⟨by rw [hW1, hX]; exact (Blk.made w 9 [.string b0]).alloc _, by rw [hW1, ← S0]; exact Blk.made _ 4 [.bool g0], by rw [hW1]; exact ((Below.refl _ _).alloc (Nat.le_refl _) _).alloc (by simp) _, by omega, by omega, by omega⟩
  have HXZ : Hid (X < Z) := Lib.hid (by omega)
  rw [← hW1, ← hZ, ← hX]
  clear hW1 hX hZ S0 HC
  go_upto_region 5 with (fail)
  obtain ⟨S, hS⟩ : ∃ S, S = W1.heap.size := ⟨_, rfl⟩
  obtain ⟨W2, hW2⟩ : ∃ W : World, W = W1.alloc (.cells #[.func (.func 36) #[] #[.pointer (some ⟨X, 0, none⟩)]] 44) := ⟨_, rfl⟩
  have L2 : Hid (QL w W2 X Z S (.slice none 0 0) [] b0 g0) := Lib.hid (by
    have hb : Below W1.heap.size W1 W2 := by rw [hW2]; exact (Below.refl _ _).alloc (Nat.le_refl _) _
    have h1 := S1.out
    have h2 := HXZ.out
    exact ⟨⟨Q1.out.left.below hb (by omega), Q1.out.good.below hb (by omega), Q1.out.low.trans (hb.mono Q1.out.low.size), Q1.out.ge⟩, by rw [hW2, hS]; exact Blk.made _ 44 [_], OwnR.nil 3 W2 (S + 1) 41, ⟨by omega, by omega⟩, fun q h => (List.not_mem_nil h).elim⟩)
  rw [← hW2, ← hS]
  clear hW2 hS S1 Q1 HXZ
  have HJ : Hid (g0 = true → s.toList = 123 :: b0.toList ∧ Jn b0.toList [] b0.toList) := Lib.hid fun h => ⟨MK.out.1 h, Jn.start _⟩
  have HN : Hid (g0 = false → RdQs s.toList [] false) := Lib.hid fun h => ⟨Nat.zero_le _, fun h => (Bool.false_ne_true h).elim, fun _ m _ _ _ e => MK.out.2 h _ e.symm⟩
  clear MK
  go_wp2_with (fail)
  go_step3
  go_wp2_with (fail)
  refine lqs_loop _ _ _ _ _ _ _ _ _ _ _ _ _ _ _ _ _ _ _ _ _ _ _ _ _ _ _ _ _ _ _ _ _ _ _ _ _ _ _ _ _ _ _ w X Z S s.toList b0.toList _ b0 g0 W2 HB0 L2 HJ HN (Lib.hid ?_) (Lib.hid ?_) (Lib.hid ?_)
  · intro u2 u3 u10 u19 u20 u21 u22 u23 u24 u25 u26 u27 u28 u29 u30 u31 u32 u33 u34 u35 u36 u37 u38 u39 u40 u41 u42 u43 u44 v w3 l b L3 HR
    have c0 : w3.cell? ⟨Z, 0, none⟩ = some (.bool false) := L3.out.q.good.cell 0
    have HRQ := Lib.hid (fun m => (L3.out.bel (below_drewN (Below.refl _ _) m)).qa)
    have HLW := Lib.hid (fun m => below_drewN L3.out.q.low m)
    clear HB0 L2 HJ HN
    go_wp2_with (fail)
    go_quiet (fail)
    go_wp2_with (fail)
    rw [Exit.noGoto_ret]
    go_ret2
    exact ⟨_, l, false, rfl, HRQ.out _, HR.out, HLW.out _⟩
  · intro u2 u3 u10 u19 u20 u21 u22 u23 u24 u25 u26 u27 u28 u29 u30 u31 u32 u33 u34 u35 u36 u37 u38 u39 u40 u41 u42 u43 u44 v w3 l b g L3 HR HG
    have c0 : w3.cell? ⟨Z, 0, none⟩ = some (.bool true) := L3.out.q.good.cell 0
    have c1 : w3.cell? ⟨X, 0, none⟩ = some (.string b) := L3.out.q.left.cell 0
    have HRQ := Lib.hid (fun m => (L3.out.bel (below_drewN (Below.refl _ _) m)).qa)
    have HLW := Lib.hid (fun m => below_drewN L3.out.q.low m)
    have hg := HG.out.symm
    clear HB0 L2 HJ HN
    cases g with
    | true =>
      go_wp2_with (fail)
      go_quiet (fail)
      go_wp2_with (fail)
      rw [Exit.noGoto_ret]
      go_ret2
      exact ⟨_, l, true, rfl, HRQ.out _, HR.out, HLW.out _⟩
    | false =>
      go_wp2_with (fail)
      go_quiet (fail)
      go_wp2_with (fail)
      rw [Exit.noGoto_ret]
      go_ret2
      exact ⟨_, l, false, rfl, HRQ.out _, HR.out, HLW.out _⟩
  · intro u10 u19 u20 u21 u22 u23 u24 u25 u26 u27 u28 u29 u30 u31 u32 u33 u34 u35 u36 u37 u38 u39 u40 u41 u42 u43 u44 v w3 l b g L3 HR
    have HRQ := Lib.hid L3.out.qa
    have HLW := Lib.hid L3.out.q.low
    clear HB0 L2 HJ HN
    go_wp2_with (fail)
    rw [Exit.noGoto_ret]
    go_ret2
    exact ⟨_, l, false, rfl, HRQ.out, HR.out, HLW.out⟩
end Go.Proofs.Ytckgpocfcanokaa
