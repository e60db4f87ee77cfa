/- Maps of whatever keys and elements, in whatever program: what they hold, as a function; their laws at the operations; a range over one. Premise: how the keys read. -/
import Derived.Test.YthhojjdccfcicaaSrow
import Derived.Maps.RangeWalk
import Derived.Maps.OwnSet
import Derived.Maps.OwnOps
import Derived.Maps.Ext
import Derived.Deep.QuietTactic
import Derived.BigQuiet
namespace Go.Proofs.Ythhojjdccfcicaa
open Go.RowKit

/-- An element reads as itself. -/
def heldK (v : Value) : Option (DataW Value × List MemPlace) := some (.held v, [])
/-- How the keys of a type read. -/
structure KeyD (P : Program) (kt : TypeId) (K : Type) where
  keyed : Maps.Keyed P kt
  val : K → Value
  lit : K → Lit
  ok : K → Prop
  key : ∀ {x : K}, ok x → keyOf P kt (val x) = some (lit x)
  back : ∀ {v : Value} {l : Lit}, keyOf P kt v = some l → ∃ x, ok x ∧ v = val x ∧ l = lit x
  inj : ∀ {x y : K}, val x = val y → x = y
section
variable {P : Program} {kt : TypeId} {K : Type} {C : KeyD P kt K}
theorem KeyD.lit_inj {x y : K} (hx : C.ok x) (hy : C.ok y) (h : C.lit x = C.lit y) : x = y := C.inj (C.keyed.inj (C.key hx) (h ▸ C.key hy))
theorem KeyD.isKey {x : K} (hx : C.ok x) : WideAt.IsKeyLit (C.lit x) := C.keyed.key (C.key hx)
/-- Block b is a map of at most n entries: f says what is at each key. -/
structure MapK (C : KeyD P kt K) (w : World) (b n : Nat) (f : K → Option Value) : Prop where
  own : ∃ D, w.ownsMap P kt heldK b n D ∧ ∀ x, C.ok x → Maps.has D (C.lit x) = (f x).isSome ∧ ∀ v, f x = some v → ∀ z, D.atKey (C.lit x) z = .held v
  dom : ∀ x v, f x = some v → C.ok x
theorem MapK.lt {w : World} {b n : Nat} {f : K → Option Value} (h : MapK C w b n f) : b < w.heap.size := by
  obtain ⟨D, h1, _⟩ := h.own
  exact h1.lt
theorem MapK.keep {w w' : World} {b n : Nat} {f : K → Option Value} (h : MapK C w b n f) (hb : w'.heap[b]? = w.heap[b]?) : MapK C w' b n f := by
  obtain ⟨D, ⟨es, clock, h1, F, hs, hD⟩, h2⟩ := h.own
  exact ⟨⟨D, ⟨es, clock, hb.trans h1, F, hs, hD⟩, h2⟩, h.dom⟩
theorem MapK.chg {w w' : World} {b n : Nat} {f : K → Option Value} {G : Nat → Prop} (h : MapK C w b n f) (hc : Chg G w w') (hG : ¬ G b) : MapK C w' b n f := h.keep (hc.keep b h.lt hG)
theorem MapK.drewN {w : World} {b n : Nat} {f : K → Option Value} (h : MapK C w b n f) (m : Nat) : MapK C (w.drewN m) b n f := h.keep rfl
theorem MapK.below {w w' : World} {b n B : Nat} {f : K → Option Value} (h : MapK C w b n f) (hb : Below B w w') (hB : b < B) : MapK C w' b n f := h.keep (hb.block b hB)
theorem MapK.more {w : World} {b n m : Nat} {f : K → Option Value} (h : MapK C w b n f) (hm : n ≤ m) : MapK C w b m f := by
  obtain ⟨D, ⟨es, clock, h1, F, hs, hD⟩, h2⟩ := h.own
  exact ⟨⟨D, ⟨es, clock, h1, F, Nat.le_trans hs hm, hD⟩, h2⟩, h.dom⟩
theorem MapK.made (C : KeyD P kt K) (w : World) : MapK C (w.alloc (.map #[] 0)) w.heap.size 0 fun _ => none :=
  ⟨⟨.map [], World.ownsMap_made _ _ _ _, fun _ _ => ⟨rfl, fun _ h => by cases h⟩⟩, fun _ _ h => by cases h⟩
theorem chgK_grown {w w' : World} {b : Nat} (h : w.grownBy w' (some b)) : Chg (fun k => k = b) w w' := ⟨h.os, h.tape, h.output, h.size, fun k hk hb => h.block k hk (fun e => hb (Option.some.inj e))⟩
theorem zeroK_run {t : TypeId} {z : Value} (h : (P.info? t).bind (·.zero) = some z) (w : World) : (zeroValue t).run P w = .ok z w := by
  cases hi : P.info? t with
  | none => rw [hi] at h; cases h
  | some i =>
    rw [hi] at h
    have h : i.zero = some z := h
    simp [zeroValue, typeInfo, hi, h]
/-- What is found. -/
theorem MapK.look {w : World} {b n : Nat} {f : K → Option Value} (h : MapK C w b n f) {t e : TypeId} (ht : P.underlying t = some (.map kt e)) {z : Value} (hz : (zeroValue e).run P w = .ok z w) {k : K} (hk : C.ok k) :
    (Instr.lookup t (.map (some b)) (C.val k) false).run P w = .ok ((f k).getD z) w ∧ (Instr.lookup t (.map (some b)) (C.val k) true).run P w = .ok (.tuple #[(f k).getD z, .bool (f k).isSome]) w := by
  obtain ⟨D, h1, h2⟩ := h.own
  obtain ⟨g1, g2⟩ := h2 k hk
  have val : ∀ v ps, heldK v = some (D.atKey (C.lit k) (.held z), ps) → v = (f k).getD z := fun v ps hv => by
    unfold heldK at hv
    simp only [Option.some.injEq, Prod.mk.injEq] at hv
    cases hf : f k with
    | none =>
      rw [hf] at g1
      rw [Maps.atKey_of_not_has g1] at hv
      simpa using hv.1
    | some u =>
      rw [g2 u hf] at hv
      simpa using hv.1
  obtain ⟨v1, ps1, r1, e1⟩ := h1.lookup C.keyed ht hz (zd := .held z) (zp := []) rfl (C.key hk)
  obtain ⟨v2, ps2, r2, e2⟩ := h1.look_ok C.keyed ht hz (zd := .held z) (zp := []) rfl (C.key hk)
  refine ⟨by rw [r1, val _ _ e1], ?_⟩
  rw [r2, val _ _ e2, g1]
variable {w : World} {ops : Array Oper} {rest : List Oper} {o : Oper} {a : Act} {Q : Exit → Act → World → Prop}
theorem wpList_lookK (hg : o.guard = none) (m x : Operand) (t e : TypeId) (hop : o.op = Op.lookup t m x false) (ht : P.underlying t = some (.map kt e)) {z : Value} (hz : (P.info? e).bind (·.zero) = some z)
    {b n : Nat} {f : K → Option Value} (hm : a.eval m = .map (some b)) (h : MapK C w b n f) {k : K} (hk : C.ok k) (hx : a.eval x = C.val k) (v : Value) (hv : (f k).getD z = v)
    (hK : wpList P ops Q rest (a.put o.dst v) w) : wpList P ops Q (o :: rest) a w := by
  refine wpList_plain hg fun K' hK' => ?_
  obtain ⟨h1, _⟩ := h.look ht (zeroK_run hz w) hk
  rw [hv] at h1
  unfold Oper.wp
  simp [execOp, hop, hm, hx, h1, Result.andThen]
  exact hK' _ _ hK
theorem wpList_lookK_ok (hg : o.guard = none) (m x : Operand) (t e : TypeId) (hop : o.op = Op.lookup t m x true) (ht : P.underlying t = some (.map kt e)) {z : Value} (hz : (P.info? e).bind (·.zero) = some z)
    {b n : Nat} {f : K → Option Value} (hm : a.eval m = .map (some b)) (h : MapK C w b n f) {k : K} (hk : C.ok k) (hx : a.eval x = C.val k) (v : Value) (hv : (f k).getD z = v) (there : Bool) (hth : (f k).isSome = there)
    (hK : wpList P ops Q rest (a.put o.dst (.tuple #[v, .bool there])) w) : wpList P ops Q (o :: rest) a w := by
  refine wpList_plain hg fun K' hK' => ?_
  obtain ⟨_, h2⟩ := h.look ht (zeroK_run hz w) hk
  rw [hv, hth] at h2
  unfold Oper.wp
  simp [execOp, hop, hm, hx, h2, Result.andThen]
  exact hK' _ _ hK
theorem wpQuiet_lookK {ops : Array Oper} {C' : World → Prop} {Q : Act → Prop} {rest : List Oper} {op : Oper} {T : List Value} {ds : List Deferred} (hw : Region.wanted op (yielded ops T.toArray) = true) (d : Nat) (he : op.dst = some d) (m x : Operand) (t e : TypeId) (ho : op.op = .lookup t m x false) (ht : P.underlying t = some (.map kt e)) {z : Value} (hz : (P.info? e).bind (·.zero) = some z)
    {b n : Nat} {f : K → Option Value} (hm : (⟨T.toArray, ds⟩ : Act).eval m = .map (some b)) (hS : ∀ w, C' w → MapK C w b n f) {k : K} (hk : C.ok k) (hx : (⟨T.toArray, ds⟩ : Act).eval x = C.val k) (v : Value) (hv : (f k).getD z = v)
    (h : wpQuiet P ops C' Q rest ⟨(T.set d v).toArray, ds⟩) : wpQuiet P ops C' Q (op :: rest) ⟨T.toArray, ds⟩ := by
  refine wpQuiet_step fun K hK => ?_
  rw [if_pos hw]
  refine ⟨v, fun w hC => ?_, hK _ ?_⟩
  · have h1 := ((hS w hC).look ht (zeroK_run hz w) hk).1
    rw [hv] at h1
    unfold Oper.quietAt execOp
    simp only [ho, hm, hx, Sem.run_bind, Sem.run_pure, h1, Result.andThen_ok]
    exact ⟨rfl, rfl⟩
  · rw [he]
    simpa [Act.put] using h
/-- A map is made: which block, what it holds. -/
theorem wpList_makeMapK (C : KeyD P kt K) (hg : o.guard = none) (t : TypeId) (hop : o.op = Op.makeMap t none) (N : Nat) (hN : w.heap.size = N)
    (hK : ∀ w', MapK C w' N 0 (fun _ => none) → Below N w w' → w'.heap.size = N + 1 → wpList P ops Q rest (a.put o.dst (.map (some N))) w') : wpList P ops Q (o :: rest) a w := by
  subst hN
  refine wpList_plain hg fun K' hK' => ?_
  have hrun : (Instr.makeMap t none).run P w = .ok (.map (some w.heap.size)) (w.alloc (.map #[] 0)) := run_makeMap t w
  unfold Oper.wp
  simp [execOp, hop, hrun, Result.andThen]
  exact hK' _ _ (hK _ (MapK.made C w) ((Below.refl _ _).alloc (Nat.le_refl _) _) (World.size_alloc _ _))
variable [DecidableEq K]
def updK (f : K → Option Value) (x : K) (v : Option Value) : K → Option Value := fun y => if y = x then v else f y
theorem MapK.put {w' : World} {b n : Nat} {f : K → Option Value} {D : DataW Value} (h2 : ∀ x, C.ok x → Maps.has D (C.lit x) = (f x).isSome ∧ ∀ v, f x = some v → ∀ z, D.atKey (C.lit x) z = .held v) (hl : ∀ x v, f x = some v → C.ok x) (hD : Maps.IsMap D) {k : K} (hk : C.ok k) {v : Value} (ho : w'.ownsMap P kt heldK b n (D.put (C.lit k) (.held v))) : MapK C w' b n (updK f k (some v)) := by
  have hkl := KeyD.isKey hk
  refine ⟨⟨_, ho, fun x hx => ?_⟩, fun x u hu => ?_⟩
  · unfold updK
    by_cases e : x = k
    · subst e
      rw [if_pos rfl, Maps.has_put_same hD hkl]
      exact ⟨rfl, fun u hu z => by rw [Maps.atKey_put_same hD hkl]; injection hu with hu; rw [hu]⟩
    · have hne : C.lit x ≠ C.lit k := fun h => e (KeyD.lit_inj hx hk h)
      rw [if_neg e, Maps.has_put_other hne]
      exact ⟨(h2 x hx).1, fun u hu z => by rw [Maps.atKey_put_other hne]; exact (h2 x hx).2 u hu z⟩
  · unfold updK at hu
    split at hu
    · rename_i e
      rw [e]
      exact hk
    · exact hl x u hu
theorem wpList_updateK (hg : o.guard = none) (m x y : Operand) (t e : TypeId) (hop : o.op = Op.mapUpdate t m x y) (ht : P.underlying t = some (.map kt e))
    {b n : Nat} {f : K → Option Value} (hm : a.eval m = .map (some b)) (h : MapK C w b n f) (hn : n < maxLen) {k : K} (hk : C.ok k) (hx : a.eval x = C.val k) (v : Value) (hy : a.eval y = v)
    (hK : ∀ w', MapK C w' b (n + 1) (updK f k (some v)) → Chg (fun j => j = b) w w' → wpList P ops Q rest (a.put o.dst undef) w') : wpList P ops Q (o :: rest) a w := by
  obtain ⟨D, h1, h2⟩ := h.own
  exact wpList_mapUpdate_own w hg m x y t hop kt e C.keyed ht heldK b n D hm h1 hn _ v _ hx hy (C.key hk) (.held v) [] rfl fun w' k1 k2 => hK w' (MapK.put h2 h.dom h1.isMap hk k1) (chgK_grown k2)
theorem MapK.del {w' : World} {b n : Nat} {f : K → Option Value} {D : DataW Value} (h2 : ∀ x, C.ok x → Maps.has D (C.lit x) = (f x).isSome ∧ ∀ v, f x = some v → ∀ z, D.atKey (C.lit x) z = .held v) (hl : ∀ x v, f x = some v → C.ok x) {k : K} (hk : C.ok k) (ho : w'.ownsMap P kt heldK b n (D.del (C.lit k))) : MapK C w' b n (updK f k none) := by
  refine ⟨⟨_, ho, fun x hx => ?_⟩, fun x u hu => ?_⟩
  · unfold updK
    by_cases e : x = k
    · subst e
      rw [if_pos rfl, Maps.has_del_same]
      exact ⟨rfl, fun u hu => by cases hu⟩
    · have hne : C.lit x ≠ C.lit k := fun h => e (KeyD.lit_inj hx hk h)
      rw [if_neg e, Maps.has_del_other hne]
      exact ⟨(h2 x hx).1, fun u hu z => by rw [Maps.atKey_del_other hne]; exact (h2 x hx).2 u hu z⟩
  · unfold updK at hu
    split at hu
    · cases hu
    · exact hl x u hu
theorem wpList_deleteK (hg : o.guard = none) (m x : Operand) (t e : TypeId) (hop : o.op = Op.call { callee := Callee.builtin Builtin.delete, args := #[m, x], argTypes := #[t, kt] }) (ht : P.underlying t = some (.map kt e))
    {b n : Nat} {f : K → Option Value} (hm : a.eval m = .map (some b)) (h : MapK C w b n f) {k : K} (hk : C.ok k) (hx : a.eval x = C.val k)
    (hK : ∀ w', MapK C w' b n (updK f k none) → Chg (fun j => j = b) w w' → wpList P ops Q rest (a.put o.dst (.tuple #[])) w') : wpList P ops Q (o :: rest) a w := by
  obtain ⟨D, h1, h2⟩ := h.own
  exact wpList_delete_own w hg m x t kt hop e C.keyed ht heldK b n D hm h1 _ _ hx (C.key hk) fun w' k1 k2 => hK w' (MapK.del h2 h.dom hk k1) (chgK_grown k2.grown)
end
section
variable {P : Program} {kt : TypeId} {K : Type} {C : KeyD P kt K}
variable {w : World} {ops : Array Oper} {rest : List Oper} {o : Oper} {a : Act} {Q : Exit → Act → World → Prop}
/-- A range over a map is under way: which keys are still to come, how many. -/
structure RngK (C : KeyD P kt K) (w : World) (b r n : Nat) (f : K → Option Value) (left : K → Bool) (cnt : Nat) : Prop where
  rng : ∃ D Lf, w.ranges P kt heldK b r n D Lf cnt ∧ (∀ x, C.ok x → Maps.has D (C.lit x) = (f x).isSome ∧ ∀ v, f x = some v → ∀ z, D.atKey (C.lit x) z = .held v) ∧ (∀ x, C.ok x → Lf (C.lit x) = left x)
  dom : ∀ x v, f x = some v → C.ok x
  has : ∀ x, left x = true → (f x).isSome = true
theorem RngK.map {w : World} {b r n : Nat} {f : K → Option Value} {left : K → Bool} {cnt : Nat} (h : RngK C w b r n f left cnt) : MapK C w b n f := by
  obtain ⟨D, Lf, h1, h2, _⟩ := h.rng
  exact ⟨⟨D, h1.owns, h2⟩, h.dom⟩
theorem RngK.left_eq {w : World} {b r n : Nat} {f : K → Option Value} {left : K → Bool} {cnt : Nat} (h : RngK C w b r n f left cnt) : w.rangeLeft b r = cnt := by
  obtain ⟨D, Lf, h1, _⟩ := h.rng
  exact h1.left_eq
theorem RngK.lt {w : World} {b r n : Nat} {f : K → Option Value} {left : K → Bool} {cnt : Nat} (h : RngK C w b r n f left cnt) : r < w.heap.size ∧ r ≠ b := by
  obtain ⟨D, Lf, h1, _⟩ := h.rng
  exact ⟨h1.lt, h1.ne⟩
theorem RngK.chg {w w' : World} {b r n : Nat} {f : K → Option Value} {left : K → Bool} {cnt : Nat} {G : Nat → Prop} (h : RngK C w b r n f left cnt) (hc : Chg G w w') (hb : ¬ G b) (hr : ¬ G r) : RngK C w' b r n f left cnt := by
  have hbl := h.map.lt
  have hrl := h.lt.1
  obtain ⟨D, Lf, ⟨es, clock, since, seen, c0, h1, h2, h3, h4, h5, h6⟩, h7⟩ := h.rng
  exact ⟨⟨D, Lf, ⟨es, clock, since, seen, c0, (hc.keep b hbl hb).trans h1, h2, h3, h4, (hc.keep r hrl hr).trans h5, h6⟩, h7⟩, h.dom, h.has⟩
theorem RngK.below {w w' : World} {b r n B : Nat} {f : K → Option Value} {left : K → Bool} {cnt : Nat} (h : RngK C w b r n f left cnt) (hB : Below B w w') (hb : b < B) (hr : r < B) : RngK C w' b r n f left cnt := by
  obtain ⟨D, Lf, ⟨es, clock, since, seen, c0, h1, h2, h3, h4, h5, h6⟩, h7⟩ := h.rng
  exact ⟨⟨D, Lf, ⟨es, clock, since, seen, c0, (hB.block b hb).trans h1, h2, h3, h4, (hB.block r hr).trans h5, h6⟩, h7⟩, h.dom, h.has⟩
theorem wpList_rangeK (hg : o.guard = none) (m : Operand) (t e : TypeId) (hop : o.op = Op.range t m) (ht : P.underlying t = some (.map kt e))
    {b n : Nat} {f : K → Option Value} (hm : a.eval m = .map (some b)) (h : MapK C w b n f)
    (hK : ∀ w', (∃ cnt, RngK C w' b w.heap.size n f (fun x => (f x).isSome) cnt) → Below w.heap.size w w' → w'.heap.size = w.heap.size + 1 → wpList P ops Q rest (a.put o.dst (.pointer (some ⟨w.heap.size, 0, none⟩))) w') : wpList P ops Q (o :: rest) a w := by
  obtain ⟨D, h1, h2⟩ := h.own
  exact wpList_range_own w hg m t hop kt e C.keyed ht heldK b n D hm h1 fun w' k1 k2 k3 => hK w' ⟨_, ⟨D, _, k1, h2, fun x hx => (h2 x hx).1⟩, h.dom, fun _ hx => hx⟩ ⟨k2.os, k2.tape, k2.output, k2.size, fun i hi => k2.block i hi (by simp)⟩ k3
set_option maxRecDepth 100000 in
theorem wpList_nextK [DecidableEq K] (hg : o.guard = none) (it : Operand) (hop : o.op = Op.next it false)
    {b r n : Nat} {f : K → Option Value} {left : K → Bool} {cnt : Nat} (hit : a.eval it = .pointer (some ⟨r, 0, none⟩)) (h : RngK C w b r n f left cnt)
    (hDone : (∀ x, left x = false) → wpList P ops Q rest (a.put o.dst (.tuple #[.bool false])) w)
    (hMore : ∀ (x : K) (c : Value) (w' : World) (cnt' : Nat), C.ok x → left x = true → f x = some c → RngK C w' b r n f (fun z => left z && !(decide (z = x))) cnt' → cnt' < cnt → Chg (fun j => j = r) w w' → w'.heap.size = w.heap.size →
      (Instr.entry (.pointer (some ⟨r, 0, none⟩))).run P w' = .ok (.tuple #[C.val x, c]) w' → wpList P ops Q rest (a.put o.dst (.tuple #[.bool true, C.val x, c])) w') : wpList P ops Q (o :: rest) a w := by
  obtain ⟨D, Lf, h1, h2, h3⟩ := h.rng
  have okl : ∀ x, left x = true → C.ok x := fun x hx => by
    obtain ⟨u, hu⟩ := Option.isSome_iff_exists.1 (h.has x hx)
    exact h.dom x u hu
  refine wpList_next_ranges w hg it hop kt C.keyed heldK C.val id (fun key kl hk => ?_) (fun v y _ => ⟨v, rfl⟩) b r _ D Lf cnt hit h1 (fun _ hl => hDone fun x => ?_) (fun x c kl y w' cnt' hk hl hv hat hr hlt hgr hsz hen => ?_)
  · obtain ⟨x, _, hx, _⟩ := C.back hk
    exact ⟨x, hx⟩
  · cases hx : left x with
    | false => rfl
    | true =>
      have h4 := h3 x (okl x hx)
      rw [hl, hx] at h4
      cases h4
  · obtain ⟨x', hok, hx1, rfl⟩ := C.back hk
    obtain rfl : x = x' := C.inj hx1
    have hlx : left x = true := by rw [← h3 x hok]; exact hl
    obtain ⟨u, hu⟩ := Option.isSome_iff_exists.1 (h.has x hlx)
    have hc : u = c := by
      have e1 := (h2 x hok).2 u hu (.held u)
      rw [hat] at e1
      unfold heldK at hv
      injection hv with hv
      rw [← hv] at e1
      injection e1 with e1
      exact e1.symm
    subst hc
    refine hMore x u w' cnt' hok hlx hu ⟨⟨D, _, hr, h2, fun z hz => ?_⟩, h.dom, fun z hz => ?_⟩ hlt (chgK_grown hgr) hsz hen
    · show (Lf (C.lit z) && !(C.lit z).sameKey (C.lit x)) = (left z && !decide (z = x))
      rw [h3 z hz]
      by_cases e : z = x
      · rw [e, WideAt.sameKey_self (KeyD.isKey hok), decide_eq_true rfl]
      · rw [decide_eq_false e, Maps.sameKey_ne fun h => e (KeyD.lit_inj hz hok h)]
    · rw [Bool.and_eq_true] at hz
      exact h.has z hz.1
end
end Go.Proofs.Ythhojjdccfcicaa
