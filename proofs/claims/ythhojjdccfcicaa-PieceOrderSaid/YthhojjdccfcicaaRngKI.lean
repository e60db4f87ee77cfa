/- A range over a map inside a fence, whatever its keys and elements. Premise: how the keys read. -/
import Derived.Test.YthhojjdccfcicaaMapK
import Derived.Shelf.SlIterI.Collect
namespace Go.Proofs.Ythhojjdccfcicaa
open Go.RowKit

section
variable {P : Program} {kt : TypeId} {K : Type} {C : KeyD P kt K}
variable {F : Fence} {nf : Nat} {w : World} {ops : Array Oper} {rest : List Oper} {o : Oper} {a : Act} {Q : Exit → Act → World → Prop}
theorem wpListIn_rangeK (hg : o.guard = none) (m : Operand) (t e : TypeId) (hop : o.op = Op.range t m) (ht : P.underlying t = some (.map kt e))
    {b n : Nat} {f : K → Option Value} (hm : a.eval m = .map (some b)) (h : MapK C w b n f)
    (hK : ∀ w', (∃ cnt, cnt ≤ n ∧ RngK C w' b w.heap.size n f (fun x => (f x).isSome) cnt) → w.grownBy w' none → w'.heap.size = w.heap.size + 1 → wpListIn F nf P ops Q rest (a.put o.dst (.pointer (some ⟨w.heap.size, 0, none⟩))) w') : wpListIn F nf P ops Q (o :: rest) a w := by
  obtain ⟨D, h1, h2⟩ := h.own
  have hsz : Maps.size D ≤ n := by
    obtain ⟨es, clock, _, _, hs, hD⟩ := h1
    rw [hD]
    show List.length _ ≤ n
    rw [length_sorted]
    simpa using hs
  exact wpListIn_range_own w hg m t hop kt e C.keyed ht heldK b n D hm h1 fun w' k1 k2 k3 => hK w' ⟨_, hsz, ⟨D, _, k1, h2, fun x hx => (h2 x hx).1⟩, h.dom, fun _ hx => hx⟩ k2 k3
theorem RngK.of_walks {w w' : World} {b r n : Nat} {f : K → Option Value} {left : K → Bool} {cnt : Nat} (h : RngK C w b r n f left cnt) (hk : KeepsWalks w w') : RngK C w' b r n f left cnt := by
  obtain ⟨D, Lf, h1, h7⟩ := h.rng
  exact ⟨⟨D, Lf, h1.of_walks hk, h7⟩, h.dom, h.has⟩
theorem RngK.iter_walk {w : World} {b r n : Nat} {f : K → Option Value} {left : K → Bool} {cnt : Nat} (h : RngK C w b r n f left cnt) : ∃ o : Obj, w.heap[r]? = some o ∧ o.isWalk = true := by
  obtain ⟨D, Lf, h1, h7⟩ := h.rng
  exact h1.iter_walk
set_option maxRecDepth 100000 in
theorem wpListIn_nextK [DecidableEq K] (hg : o.guard = none) (it : Operand) (hop : o.op = Op.next it false)
    {b r n : Nat} {f : K → Option Value} {left : K → Bool} {cnt : Nat} (hit : a.eval it = .pointer (some ⟨r, 0, none⟩)) (h : RngK C w b r n f left cnt)
    (hDone : (∀ x, left x = false) → wpListIn F nf P ops Q rest (a.put o.dst (.tuple #[.bool false])) w)
    (hMore : ∀ (x : K) (c : Value) (w' : World) (cnt' : Nat), C.ok x → left x = true → f x = some c → RngK C w' b r n f (fun z => left z && !(decide (z = x))) cnt' → cnt' < cnt → w.grownBy w' (some r) → w'.heap.size = w.heap.size →
      (Instr.entry (.pointer (some ⟨r, 0, none⟩))).run P w' = .ok (.tuple #[C.val x, c]) w' → wpListIn F nf P ops Q rest (a.put o.dst (.tuple #[.bool true, C.val x, c])) w') : wpListIn F nf P ops Q (o :: rest) a w := by
  obtain ⟨D, Lf, h1, h2, h3⟩ := h.rng
  have okl : ∀ x, left x = true → C.ok x := fun x hx => by
    obtain ⟨u, hu⟩ := Option.isSome_iff_exists.1 (h.has x hx)
    exact h.dom x u hu
  refine wpListIn_next_ranges w hg it hop kt C.keyed heldK C.val id (fun key kl hk => ?_) (fun v y _ => ⟨v, rfl⟩) b r _ D Lf cnt hit h1 (fun _ hl => hDone fun x => ?_) (fun x c kl y w' cnt' hk hl hv hat hr hlt hgr hsz hen => ?_)
  · obtain ⟨x, _, hx, _⟩ := C.back hk
    exact ⟨x, hx⟩
  · cases hx : left x with
    | false => rfl
    | true =>
      have h4 := h3 x (okl x hx)
      rw [hl, hx] at h4
      cases h4
  · obtain ⟨x', hok, hx1, rfl⟩ := C.back hk
    obtain rfl : x = x' := C.inj hx1
    have hlx : left x = true := by rw [← h3 x hok]; exact hl
    obtain ⟨u, hu⟩ := Option.isSome_iff_exists.1 (h.has x hlx)
    have hc : u = c := by
      have e1 := (h2 x hok).2 u hu (.held u)
      rw [hat] at e1
      unfold heldK at hv
      injection hv with hv
      rw [← hv] at e1
      injection e1 with e1
      exact e1.symm
    subst hc
    refine hMore x u w' cnt' hok hlx hu ⟨⟨D, _, hr, h2, fun z hz => ?_⟩, h.dom, fun z hz => ?_⟩ hlt hgr hsz hen
    · show (Lf (C.lit z) && !(C.lit z).sameKey (C.lit x)) = (left z && !decide (z = x))
      rw [h3 z hz]
      by_cases e : z = x
      · rw [e, WideAt.sameKey_self (KeyD.isKey hok), decide_eq_true rfl]
      · rw [decide_eq_false e, Maps.sameKey_ne fun h => e (KeyD.lit_inj hz hok h)]
    · rw [Bool.and_eq_true] at hz
      exact h.has z hz.1
/-- What has come of a map: these keys, each once. -/
structure CameK {K : Type} (f : K → Option Value) (left : K → Bool) (ks : List K) : Prop where
  nodup : ks.Nodup
  mem : ∀ k, k ∈ ks ↔ (f k).isSome = true ∧ left k = false
theorem CameK.start {K : Type} (f : K → Option Value) : CameK f (fun x => (f x).isSome) [] := ⟨List.nodup_nil, fun k => by cases f k <;> simp⟩
theorem CameK.step {K : Type} [DecidableEq K] {f : K → Option Value} {left : K → Bool} {ks : List K} (h : CameK f left ks) {x : K} (hs : (f x).isSome = true) (hx : left x = true) : CameK f (fun z => left z && !(decide (z = x))) (ks ++ [x]) := by
  refine ⟨List.nodup_append.2 ⟨h.nodup, (by simp), fun a ha b hb e => ?_⟩, fun k => ?_⟩
  · rw [List.mem_singleton] at hb
    subst hb
    subst e
    have := ((h.mem a).1 ha).2
    rw [hx] at this
    cases this
  · rw [List.mem_append, List.mem_singleton, h.mem]
    by_cases e : k = x
    · subst e
      simp [hs]
    · simp [e]
theorem CameK.all {K : Type} {f : K → Option Value} {left : K → Bool} {ks : List K} (h : CameK f left ks) (hl : ∀ x, left x = false) : ∀ k, k ∈ ks ↔ (f k).isSome = true := fun k => by
  rw [h.mem, hl]
  simp
end
end Go.Proofs.Ythhojjdccfcicaa
