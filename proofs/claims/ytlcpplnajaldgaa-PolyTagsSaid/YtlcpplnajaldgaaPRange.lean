/- A law for a range over a function whose iterator writes cells of its own: the caller's invariant speaks of what lay ahead of the loop. Conditions: each round goes on, and changes no block that was laid since the loop began. -/
import Derived.Test.YtlcpplnajaldgaaPBlks
namespace Go.Proofs.Ytlcpplnajaldgaa
open Go.RowKit Go.Shelf

/-- How a round's body ends: it goes on; what lay at or beyond B lies as it lay. -/
def lowPost (B : Nat) (A : World) (I : World → Prop) : Exit → Act → World → Prop
  | .normal, _, V => I V ∧ A.heap.size ≤ V.heap.size ∧ ∀ k, B ≤ k → k < A.heap.size → V.heap[k]? = A.heap[k]?
  | _, _, _ => False
theorem below_putObj {B : Nat} (W : World) (l : Nat) (o : Obj) (h : B ≤ l) : Below B W (W.putObj l o) :=
  ⟨rfl, rfl, rfl, by simp, fun k hk => World.putObj_heap_other (by omega)⟩
theorem wpIn_rangeFunc_low {P : Program} {g : Operand} {ps : Array Tmp} {assign body : Code} {Q : Exit → Act → World → Prop} {a : Act} {w : World} {gf : Nat} {lb : Array Value}
    (hg : a.eval g = .func (.func gf) #[] lb) (eg : ∀ args w, (callFunc gf args).run P w = .ok (.enter gf args) w) (hps : ps.size = 1) (N : Nat) (enc : Nat → Value) (J : Nat → World → Prop) (AP : Nat → World → Act → World → Prop)
    (hJ : ∀ j A B, J j A → Below w.heap.size A B → J j B) (h0 : J 0 w)
    (hseq : ∀ (l : Nat) (W : World) (I : Nat → World → Prop), Below w.heap.size w W → (∀ j A, I j A → J j A) → (∀ j A B, I j A → Below W.heap.size A B → I j B) →
      (∀ j A, j < N → I j A → YieldAt Fence.wide 1 P l #[enc j] A fun e B => e = .returned (.bool true) ∧ I (j + 1) B ∧ A.heap.size ≤ B.heap.size ∧ ∀ k, W.heap.size ≤ k → k < A.heap.size → B.heap[k]? = A.heap[k]?) →
      I 0 W → CallsIn Fence.wide 2 P gf (#[.func (.yield l) #[] #[]] ++ lb) W fun e W' => (∃ v, e = .returned v) ∧ I N W')
    (hassign : ∀ (l j : Nat) (A : World) (K : Act → World → Prop), j < N → J j A → w.heap.size ≤ A.heap.size → (∀ a₁ A₁, AP j A a₁ A₁ → Below A.heap.size A A₁ → K a₁ A₁) →
      assign.wpIn (Fence.wide.inRound l) 1 P (Exit.then K (fun _ _ _ => False)) { tmps := (ps.zip #[enc j]).foldl (fun t (p, v) => t.setIfInBounds p v) a.tmps, defers := [] } A)
    (hbody : ∀ (l j : Nat) (A A₁ A₂ : World) (a₁ : Act), j < N → J j A → AP j A a₁ A₁ → Below A.heap.size A A₁ → w.heap.size ≤ l → l < A.heap.size → A₂.heap.size = A₁.heap.size → (∀ k, k ≠ l → A₂.heap[k]? = A₁.heap[k]?) → Below w.heap.size A₁ A₂ →
      body.wpIn (Fence.wide.inRound l) 1 P (lowPost w.heap.size A₂ (J (j + 1))) a₁ A₂)
    (hdone : ∀ W : World, J N W → w.heap.size < W.heap.size → W.heap[w.heap.size]? = some (.deferred (some [])) → Q .normal { a with defers := { target := .collected w.heap.size, args := #[] } :: a.defers } W) :
    (Code.rangeFunc g ps assign body).wpIn Fence.wide 3 P Q a w := by
  refine wpIn_rangeFunc ?_
  intro fn _
  obtain ⟨rec, hrec⟩ : ∃ rec : LoopState → Option Code → Loop, rec = fun st pe => { state := st, pending := pe, fn, tmps := a.tmps, params := ps, assign, body, defers := w.heap.size } := ⟨_, rfl⟩
  obtain ⟨W1, hW1⟩ : ∃ V, V = (w.alloc (.deferred (some []))).alloc (.loop (rec .ready none)) := ⟨_, rfl⟩
  have hsz : W1.heap.size = w.heap.size + 1 + 1 := by rw [hW1]; simp
  have hL : W1.heap[w.heap.size + 1]? = some (.loop (rec .ready none)) := by
    have h := World.alloc_heap_new (w.alloc (.deferred (some []))) (.loop (rec .ready none))
    rw [World.size_alloc] at h
    rw [hW1]
    exact h
  have hD : W1.heap[w.heap.size]? = some (.deferred (some [])) := by
    rw [hW1]
    exact (Below.heap_alloc _ _ _ (by simp)).trans (World.alloc_heap_new w _)
  have hbel : Below w.heap.size w W1 := by
    rw [hW1]
    exact ((Below.refl _ w).alloc (Nat.le_refl _) _).alloc (by simp) _
  refine ⟨w.heap.size + 1, [{ target := .collected w.heap.size, args := #[] }], W1, { target := .fn (.func gf) lb, args := #[.func (.yield (w.heap.size + 1)) #[] #[]] }, W1, gf, #[.func (.yield (w.heap.size + 1)) #[] #[]] ++ lb, W1, ?_, ?_, fun _ _ => trivial, ?_, fun _ => by omega, ?_⟩
  · rw [hW1, hrec]
    exact run_enterLoop_outer _ _ _ _ _
  · simp only [resolve, hg]
    simp [go_sem]
  · simp [invoke, go_sem, eg]
  refine (hseq (w.heap.size + 1) W1 (fun j A => J j A ∧ A.heap[w.heap.size + 1]? = some (.loop (rec .ready none)) ∧ A.heap[w.heap.size]? = some (.deferred (some []))) hbel (fun j A h => h.1) (fun j A B h hb => ⟨hJ j A B h.1 (hb.mono (by omega)), (hb.block _ (by omega)).trans h.2.1, (hb.block _ (by omega)).trans h.2.2⟩) ?_ ⟨hJ 0 w W1 h0 hbel, hL, hD⟩).mono ?_
  · -- one round
    rintro j A hjN ⟨hj, hl, hd⟩
    have hlt : w.heap.size + 1 < A.heap.size := (Array.getElem?_eq_some_iff.1 hl).1
    have hy := run_yield (P := P) (args := #[enc j]) hl (by rw [hrec]; exact hps.symm)
    rw [hrec] at hy
    refine ⟨fn, _, assign, body, hy, roundIn_of_wpIn trivial (hassign _ j A _ hjN hj (by omega) fun a₁ A₁ hap hb1 => ?_)⟩
    have hl1 : A₁.heap[w.heap.size + 1]? = some (.loop (rec .ready none)) := (hb1.block _ hlt).trans hl
    have hlt1 : w.heap.size + 1 < A₁.heap.size := (Array.getElem?_eq_some_iff.1 hl1).1
    refine ⟨A₁.putObj (w.heap.size + 1) (.loop { rec .ready none with state := .busy }), run_beginRound hl1 (by rw [hrec]), ?_⟩
    refine wpIn_mono (hbody (w.heap.size + 1) j A A₁ _ a₁ hjN hj hap hb1 (by omega) hlt (by simp) (fun k hk => World.putObj_heap_other hk) (below_putObj _ _ _ (by omega))) ?_
    rintro e a3 V hp
    cases e with
    | normal =>
      obtain ⟨hi, hsz3, hk3⟩ := hp
      rw [World.putObj_size] at hsz3 hk3
      have hl3 : V.heap[w.heap.size + 1]? = some (.loop { rec .ready none with state := .busy }) := (hk3 _ (by omega) hlt1).trans (World.putObj_heap_same hlt1)
      have hd3 : V.heap[w.heap.size]? = some (.deferred (some [])) := (hk3 _ (by omega) (by omega)).trans ((World.putObj_heap_other (by omega)).trans ((hb1.block _ (by omega)).trans hd))
      have hend := run_endRound (P := P) none hl3
      rw [hrec] at hend hl3
      have hb4 : Below w.heap.size V (V.putObj (w.heap.size + 1) (.loop (rec .ready none))) := below_putObj _ _ _ (by omega)
      have hsz2 : A.heap.size ≤ A₁.heap.size := hb1.size
      refine ⟨_, _, hend, rfl, ⟨?_, ?_, ?_⟩, ?_, fun k hk1 hk2 => ?_⟩
      · rw [hrec] at hb4
        exact hJ _ _ _ hi hb4
      · rw [hrec]
        exact World.putObj_heap_same (by omega)
      · exact (World.putObj_heap_other (by omega)).trans hd3
      · rw [World.putObj_size]; omega
      · rw [World.putObj_heap_other (by omega), hk3 k (by omega) (by omega), World.putObj_heap_other (by omega)]
        exact hb1.block k hk2
    | ret => exact hp.elim
    | exit id => exact hp.elim
    | goto t => exact hp.elim
    | panic ch => exact hp.elim
    | outgrown => exact hp.elim
  · -- behind the iterator
    rintro e W2 ⟨⟨v, rfl⟩, hj, hl, hd⟩
    have hlt : w.heap.size + 1 < W2.heap.size := (Array.getElem?_eq_some_iff.1 hl).1
    have hend := run_endLoop (P := P) hl (by rw [hrec]; simp)
    rw [hrec] at hend
    refine ⟨none, _, hend, ?_⟩
    refine hdone _ (hJ _ _ _ hj (below_putObj _ _ _ (by omega))) (by rw [World.putObj_size]; omega) ((World.putObj_heap_other (by omega)).trans hd)
end Go.Proofs.Ytlcpplnajaldgaa
