/- Part 13 of the words that the laws share: MapI, DsP, MapR, MapQ. No condition of its own: each theorem says its own. -/
import Derived.Test.YtbodiioemohenaaDoorPart12
import Derived.Test.YtbodiioemohenaaDoorPart1
import Derived.Test.YtbodiioemohenaaDoorPart9
import Derived.Test.YtbodiioemohenaaDoorPart4
import Derived.Maps.RangeWalk
import Derived.Maps.OwnSet
import Derived.Maps.OwnOps
import Derived.Maps.Ext
import Derived.Deep.QuietTactic
import Derived.BigQuiet

/- Maps of int keys from 0 to 1023 whose elements are of whatever type: what they hold, as a function; their laws at the operations. Condition: the keys are below 1024. -/
namespace Go.Proofs.YtbodiioemohenaaDoor
open Go.RowKit

/-- An element reads as itself. -/
def heldV (v : Value) : Option (DataW Value × List MemPlace) := some (.held v, [])
theorem intK : Maps.Keyed Tryd.prog 3 := Maps.int_keyed Tryd.underlying3
theorem keyI {x : Int} (h : (Lit.int .i64 x).wf = true) : keyOf Tryd.prog 3 (.int .i64 x) = some (.int .i64 x) := Maps.keyOf_int_mk Tryd.underlying3 h
theorem wfI {x : Int} (h : 0 ≤ x ∧ x < 1024) : (Lit.int .i64 x).wf = true := WalkArith.wf_i64 (by omega)
/-- Block b is a map: f says what is at each key. -/
structure MapI (w : World) (b : Nat) (f : Int → Option Value) : Prop where
  own : ∃ D, w.ownsMap Tryd.prog 3 heldV b (Maps.size D) D ∧ (∀ x, (Lit.int .i64 x).wf = true → Maps.has D (.int .i64 x) = (f x).isSome ∧ ∀ v, f x = some v → ∀ z, D.atKey (.int .i64 x) z = .held v)
  low : ∀ x v, f x = some v → 0 ≤ x ∧ x < 1024
theorem ownsMap_tight {w : World} {b n : Nat} {D : DataW Value} (h : w.ownsMap Tryd.prog 3 heldV b n D) : w.ownsMap Tryd.prog 3 heldV b (Maps.size D) D := by
  obtain ⟨es, clock, hb, F, _, hD⟩ := h
  refine ⟨es, clock, hb, F, ?_, hD⟩
  rw [hD, Maps.size_eq, length_sorted, List.length_map]
  simp
theorem MapI.lt {w : World} {b : Nat} {f : Int → Option Value} (h : MapI w b f) : b < w.heap.size := by
  obtain ⟨D, h1, _⟩ := h.own
  exact h1.lt
theorem MapI.keep {w w' : World} {b : Nat} {f : Int → Option Value} (h : MapI w b f) (hb : w'.heap[b]? = w.heap[b]?) : MapI w' b f := by
  obtain ⟨D, ⟨es, clock, h1, F, hs, hD⟩, h2⟩ := h.own
  exact ⟨⟨D, ⟨es, clock, hb.trans h1, F, hs, hD⟩, h2⟩, h.low⟩
theorem MapI.chg {w w' : World} {b : Nat} {f : Int → Option Value} {G : Nat → Prop} (h : MapI w b f) (hc : Chg G w w') (hG : ¬ G b) : MapI w' b f := h.keep (hc.keep b h.lt hG)
theorem MapI.drewN {w : World} {b : Nat} {f : Int → Option Value} (h : MapI w b f) (n : Nat) : MapI (w.drewN n) b f := h.keep rfl
theorem MapI.made (w : World) : MapI (w.alloc (.map #[] 0)) w.heap.size fun _ => none :=
  ⟨⟨.map [], World.ownsMap_made _ _ _ _, fun _ _ => ⟨rfl, fun _ h => by cases h⟩⟩, fun _ _ h => by cases h⟩
theorem chg_grown {w w' : World} {b : Nat} (h : w.grownBy w' (some b)) : Chg (fun k => k = b) w w' := ⟨h.os, h.tape, h.output, h.size, fun k hk hb => h.block k hk (fun e => hb (Option.some.inj e))⟩
def updF (f : Int → Option Value) (x : Int) (v : Option Value) : Int → Option Value := fun y => if y = x then v else f y
theorem int_before {q : IntKind} {a b : Int} (h : (Lit.int q a).before (.int q b) = true) : a < b := by
  simpa [Lit.before] using h
theorem ints_few : ∀ (l : List Int) (m : Int), (∀ x ∈ l, m ≤ x ∧ x < 1024) → l.Pairwise (· < ·) → (l.length : Int) + m ≤ 1024 ∨ l = []
  | [], _, _, _ => .inr rfl
  | x :: l, m, h, hp => by
    have h1 := h x (List.mem_cons_self ..)
    rw [List.pairwise_cons] at hp
    left
    rcases ints_few l (x + 1) (fun y hy => ⟨by have := hp.1 y hy; omega, (h y (List.mem_cons_of_mem _ hy)).2⟩) hp.2 with h2 | rfl
    · rw [List.length_cons]
      omega
    · simp
      omega
def litI : Lit → Int
  | .int _ a => a
  | _ => 0
theorem few_keys {w : World} {b : Nat} {f : Int → Option Value} {D : DataW Value} (h1 : w.ownsMap Tryd.prog 3 heldV b (Maps.size D) D) (h2 : ∀ x, (Lit.int .i64 x).wf = true → Maps.has D (.int .i64 x) = (f x).isSome ∧ ∀ v, f x = some v → ∀ z, D.atKey (.int .i64 x) z = .held v) (hl : ∀ x v, f x = some v → 0 ≤ x ∧ x < 1024) : Maps.size D ≤ 1024 := by
  have hcan := h1.canon intK
  obtain ⟨es, clock, hb, F, hs, hD⟩ := h1
  obtain ⟨l, rfl, hp, hk⟩ := hcan
  have hl2 : ∀ p ∈ l, ∃ x, p.1 = .int .i64 x ∧ 0 ≤ x ∧ x < 1024 := fun p hp' => by
    have hp2 := hp'
    injection hD with hD
    rw [hD] at hp2
    obtain ⟨v, hv⟩ := Maps.fit_keys F p (mem_sorted.1 hp2)
    obtain ⟨x, _, h3, h4⟩ := Maps.keyOf_int_inv Tryd.underlying3 hv
    have h5 : Maps.has (.map l) (.int .i64 x) = true := by
      rw [Maps.has_eq, List.any_eq_true]
      exact ⟨p, hp', by rw [h3]; simp [Lit.sameKey]⟩
    rw [(h2 x h4).1] at h5
    obtain ⟨u, hu⟩ := Option.isSome_iff_exists.1 h5
    exact ⟨x, h3, hl x u hu⟩
  rw [Maps.size_eq]
  have h3 : (l.map fun p => litI p.1).Pairwise (· < ·) := by
    rw [List.pairwise_map]
    refine hp.imp_of_mem fun {p q} hp1 hq1 hb => ?_
    obtain ⟨x, hx, _⟩ := hl2 p hp1
    obtain ⟨y, hy, _⟩ := hl2 q hq1
    rw [hx, hy] at hb ⊢
    exact int_before hb
  have h4 := ints_few (l.map fun p => litI p.1) 0 (fun x hx => by
    obtain ⟨p, hp1, rfl⟩ := List.mem_map.1 hx
    obtain ⟨y, hy, h5⟩ := hl2 p hp1
    rw [hy]
    exact h5) h3
  rw [List.length_map] at h4
  rcases h4 with h4 | h4
  · omega
  · rw [List.map_eq_nil_iff] at h4
    rw [h4]
    decide
theorem zero_run {P : Program} {t : TypeId} {z : Value} (h : (P.info? t).bind (·.zero) = some z) (w : World) : (zeroValue t).run P w = .ok z w := by
  cases hi : P.info? t with
  | none => rw [hi] at h; cases h
  | some i =>
    rw [hi] at h
    have h : i.zero = some z := h
    simp [zeroValue, typeInfo, hi, h]
/-- What is found. -/
theorem MapI.look {w : World} {b : Nat} {f : Int → Option Value} (h : MapI w b f) {t e : TypeId} (ht : Tryd.prog.underlying t = some (.map 3 e)) {z : Value} (hz : (zeroValue e).run Tryd.prog w = .ok z w) {k : Int} (hk : (Lit.int .i64 k).wf = true) :
    (Instr.lookup t (.map (some b)) (.int .i64 k) false).run Tryd.prog w = .ok ((f k).getD z) w ∧ (Instr.lookup t (.map (some b)) (.int .i64 k) true).run Tryd.prog w = .ok (.tuple #[(f k).getD z, .bool (f k).isSome]) w := by
  obtain ⟨D, h1, h2⟩ := h.own
  obtain ⟨g1, g2⟩ := h2 k hk
  have val : ∀ v ps, heldV v = some (D.atKey (.int .i64 k) (.held z), ps) → v = (f k).getD z := fun v ps hv => by
    unfold heldV at hv
    simp only [Option.some.injEq, Prod.mk.injEq] at hv
    cases hf : f k with
    | none =>
      rw [hf] at g1
      rw [Maps.atKey_of_not_has g1] at hv
      simpa using hv.1
    | some u =>
      rw [g2 u hf] at hv
      simpa using hv.1
  obtain ⟨v1, ps1, r1, e1⟩ := h1.lookup intK ht hz (zd := .held z) (zp := []) rfl (keyI hk)
  obtain ⟨v2, ps2, r2, e2⟩ := h1.look_ok intK ht hz (zd := .held z) (zp := []) rfl (keyI hk)
  refine ⟨by rw [r1, val _ _ e1], ?_⟩
  rw [r2, val _ _ e2, g1]
theorem wpList_lookupI {w : World} {ops : Array Oper} {rest : List Oper} {o : Oper} {a : Act} {Q : Exit → Act → World → Prop} (hg : o.guard = none) (m x : Operand) (t e : TypeId) (c : Bool) (hop : o.op = Op.lookup t m x c) (ht : Tryd.prog.underlying t = some (.map 3 e)) {z : Value} (hz : (zeroValue e).run Tryd.prog w = .ok z w)
    {b : Nat} {f : Int → Option Value} (hm : a.eval m = .map (some b)) (h : MapI w b f) {k : Int} (hk : (Lit.int .i64 k).wf = true) (hx : a.eval x = .int .i64 k)
    (hK : wpList Tryd.prog ops Q rest (a.put o.dst (if c then .tuple #[(f k).getD z, .bool (f k).isSome] else (f k).getD z)) w) : wpList Tryd.prog ops Q (o :: rest) a w := by
  refine wpList_plain hg fun K' hK' => ?_
  obtain ⟨h1, h2⟩ := h.look ht hz hk
  unfold Oper.wp
  cases c with
  | true =>
    simp [execOp, hop, hm, hx, h2, Result.andThen]
    exact hK' _ _ hK
  | false =>
    simp [execOp, hop, hm, hx, h1, Result.andThen]
    exact hK' _ _ hK
theorem MapI.put {w' : World} {b n : Nat} {f : Int → Option Value} {D : DataW Value} (h2 : ∀ x, (Lit.int .i64 x).wf = true → Maps.has D (.int .i64 x) = (f x).isSome ∧ ∀ v, f x = some v → ∀ z, D.atKey (.int .i64 x) z = .held v) (hl : ∀ x v, f x = some v → 0 ≤ x ∧ x < 1024) (hD : Maps.IsMap D) {k : Int} (hk : 0 ≤ k ∧ k < 1024) {v : Value} (ho : w'.ownsMap Tryd.prog 3 heldV b n (D.put (.int .i64 k) (.held v))) : MapI w' b (updF f k (some v)) := by
  have hkl : WideAt.IsKeyLit (.int .i64 k) := intK.key (keyI (wfI hk))
  refine ⟨⟨_, ownsMap_tight ho, fun x hx => ?_⟩, fun x u hu => ?_⟩
  · unfold updF
    by_cases e : x = k
    · subst e
      rw [if_pos rfl, Maps.has_put_same hD hkl]
      exact ⟨rfl, fun u hu z => by rw [Maps.atKey_put_same hD hkl]; injection hu with hu; rw [hu]⟩
    · have hne : (Lit.int .i64 x) ≠ .int .i64 k := fun h => e (by injection h)
      rw [if_neg e, Maps.has_put_other hne]
      exact ⟨(h2 x hx).1, fun u hu z => by rw [Maps.atKey_put_other hne]; exact (h2 x hx).2 u hu z⟩
  · unfold updF at hu
    split at hu
    · rename_i e
      rw [e]
      exact hk
    · exact hl x u hu
theorem wpList_updateI {w : World} {ops : Array Oper} {rest : List Oper} {o : Oper} {a : Act} {Q : Exit → Act → World → Prop} (hg : o.guard = none) (m x y : Operand) (t e : TypeId) (hop : o.op = Op.mapUpdate t m x y) (ht : Tryd.prog.underlying t = some (.map 3 e))
    {b : Nat} {f : Int → Option Value} (hm : a.eval m = .map (some b)) (h : MapI w b f) {k : Int} (hk : 0 ≤ k ∧ k < 1024) (hx : a.eval x = .int .i64 k) (v : Value) (hy : a.eval y = v)
    (hK : ∀ w', MapI w' b (updF f k (some v)) → Chg (fun j => j = b) w w' → wpList Tryd.prog ops Q rest (a.put o.dst undef) w') : wpList Tryd.prog ops Q (o :: rest) a w := by
  obtain ⟨D, h1, h2⟩ := h.own
  exact wpList_mapUpdate_own w hg m x y t hop 3 e intK ht heldV b (Maps.size D) D hm h1 (Nat.lt_of_le_of_lt (few_keys h1 h2 h.low) (by unfold maxLen; omega)) _ v _ hx hy (keyI (wfI hk)) (.held v) [] rfl fun w' k1 k2 => hK w' (MapI.put h2 h.low h1.isMap hk k1) (chg_grown k2)
theorem MapI.del {w' : World} {b n : Nat} {f : Int → Option Value} {D : DataW Value} (h2 : ∀ x, (Lit.int .i64 x).wf = true → Maps.has D (.int .i64 x) = (f x).isSome ∧ ∀ v, f x = some v → ∀ z, D.atKey (.int .i64 x) z = .held v) (hl : ∀ x v, f x = some v → 0 ≤ x ∧ x < 1024) {k : Int} (ho : w'.ownsMap Tryd.prog 3 heldV b n (D.del (.int .i64 k))) : MapI w' b (updF f k none) := by
  refine ⟨⟨_, ownsMap_tight ho, fun x hx => ?_⟩, fun x u hu => ?_⟩
  · unfold updF
    by_cases e : x = k
    · subst e
      rw [if_pos rfl, Maps.has_del_same]
      exact ⟨rfl, fun u hu => by cases hu⟩
    · have hne : (Lit.int .i64 x) ≠ .int .i64 k := fun h => e (by injection h)
      rw [if_neg e, Maps.has_del_other hne]
      exact ⟨(h2 x hx).1, fun u hu z => by rw [Maps.atKey_del_other hne]; exact (h2 x hx).2 u hu z⟩
  · unfold updF at hu
    split at hu
    · cases hu
    · exact hl x u hu
theorem chg_turned {w w' : World} {b : Nat} (h : w.mapTurned w' b) : Chg (fun j => j = b) w w' := chg_grown h.grown
theorem wpList_deleteI {w : World} {ops : Array Oper} {rest : List Oper} {o : Oper} {a : Act} {Q : Exit → Act → World → Prop} (hg : o.guard = none) (m x : Operand) (t e : TypeId) (hop : o.op = Op.call { callee := Callee.builtin Builtin.delete, args := #[m, x], argTypes := #[t, 3] }) (ht : Tryd.prog.underlying t = some (.map 3 e))
    {b : Nat} {f : Int → Option Value} (hm : a.eval m = .map (some b)) (h : MapI w b f) {k : Int} (hk : (Lit.int .i64 k).wf = true) (hx : a.eval x = .int .i64 k)
    (hK : ∀ w', MapI w' b (updF f k none) → Chg (fun j => j = b) w w' → wpList Tryd.prog ops Q rest (a.put o.dst (.tuple #[])) w') : wpList Tryd.prog ops Q (o :: rest) a w := by
  obtain ⟨D, h1, h2⟩ := h.own
  exact wpList_delete_own w hg m x t 3 hop e intK ht heldV b (Maps.size D) D hm h1 _ _ hx (keyI hk) fun w' k1 k2 => hK w' (MapI.del h2 h.low k1) (chg_turned k2)
end Go.Proofs.YtbodiioemohenaaDoor

/- What the three maps of a disk hold, reckoned: the safe sectors, the written ones, the torn ones; what writing, syncing, booting make of them. No program in sight. Condition: a sector that isn't safe isn't torn. -/
namespace Go.Proofs.YtbodiioemohenaaDoor
open Go.RowKit

def unitV : Value := .agg #[]
/-- Was it torn when it was safe; its bytes when it was safe. -/
def stP (p : Pl) : Bool := if p.opn then p.old else p.torn
def sbP (p : Pl) : List UInt8 := if p.opn then p.was else p.now
def safeB (L : List Pl) (k : Int) : List UInt8 := (getP L k).elim z128 fun p => if stP p then z128 else sbP p
def wrF (L : List Pl) (k : Int) : Option Value := (getP L k).bind fun p => if p.opn then some (arrV p.now) else none
def toF (L : List Pl) (k : Int) : Option Value := (getP L k).bind fun p => if stP p then some unitV else none
/-- A sector that isn't safe isn't torn. -/
def OpnOk (L : List Pl) : Prop := ∀ k p, getP L k = some p → p.opn = true → p.torn = false
theorem stP_put (p : Pl) (bs : List UInt8) : stP (putP p bs) = stP p := by
  unfold stP putP
  simp
theorem sbP_put (p : Pl) (bs : List UInt8) : sbP (putP p bs) = sbP p := by
  unfold sbP putP
  simp
theorem safeB_write (L : List Pl) (k : Nat) (bs : List UInt8) (k' : Int) : safeB (writeL L k bs) k' = safeB L k' := by
  unfold safeB
  rw [getP_writeL]
  by_cases h : k' = k
  · rw [if_pos h, h]
    cases getP L k with
    | none => rfl
    | some p =>
      show (if stP (putP p bs) then z128 else sbP (putP p bs)) = if stP p then z128 else sbP p
      rw [stP_put, sbP_put]
  · rw [if_neg h]
theorem toF_write (L : List Pl) (k : Nat) (bs : List UInt8) : toF (writeL L k bs) = toF L := by
  funext k'
  unfold toF
  rw [getP_writeL]
  by_cases h : k' = k
  · rw [if_pos h, h]
    cases getP L k with
    | none => rfl
    | some p =>
      show (if stP (putP p bs) then some unitV else none) = if stP p then some unitV else none
      rw [stP_put]
  · rw [if_neg h]
theorem wrF_write (L : List Pl) (k : Nat) (bs : List UInt8) : wrF (writeL L k bs) = updF (wrF L) k (some (arrV (pad128 bs))) := by
  funext k'
  unfold wrF updF
  rw [getP_writeL]
  by_cases h : k' = k
  · rw [if_pos h, if_pos h]
    rfl
  · rw [if_neg h, if_neg h]
theorem opn_write {L : List Pl} (h : OpnOk L) (k : Nat) (bs : List UInt8) : OpnOk (writeL L k bs) := fun k' p hp ho => by
  rw [getP_writeL] at hp
  split at hp
  · injection hp with hp
    rw [← hp]
    rfl
  · exact h k' p hp ho
theorem opn_nil : OpnOk [] := fun k p hp => by cases hp
theorem opn_safe (L : List Pl) : OpnOk (L.map safeP) := fun k p hp ho => by
  rw [getP_safe] at hp
  obtain ⟨q, _, rfl⟩ := Option.map_eq_some_iff.1 hp
  cases ho
theorem wrF_safe (L : List Pl) : wrF (L.map safeP) = fun _ => none := by
  funext k
  unfold wrF
  rw [getP_safe]
  cases getP L k <;> rfl
theorem safeB_safe {L : List Pl} (h : OpnOk L) (k : Int) : arrV (safeB (L.map safeP) k) = (wrF L k).getD (arrV (safeB L k)) := by
  have hk := h k
  unfold safeB wrF
  rw [getP_safe]
  cases hg : getP L k with
  | none => rfl
  | some p =>
    have e1 : stP (safeP p) = p.torn := rfl
    have e2 : sbP (safeP p) = p.now := rfl
    show arrV (if stP (safeP p) then z128 else sbP (safeP p)) = (if p.opn then some (arrV p.now) else none : Option Value).getD (arrV (if stP p then z128 else sbP p))
    rw [e1, e2]
    by_cases ho : p.opn = true
    · rw [if_pos ho, hk p hg ho]
      rfl
    · rw [if_neg ho]
      unfold stP sbP
      rw [if_neg ho, if_neg ho]
      rfl
theorem toF_safe {L : List Pl} (h : OpnOk L) (k : Int) : toF (L.map safeP) k = if (wrF L k).isSome then none else toF L k := by
  have hk := h k
  unfold toF wrF
  rw [getP_safe]
  cases hg : getP L k with
  | none => rfl
  | some p =>
    have e1 : stP (safeP p) = p.torn := rfl
    show (if stP (safeP p) then some unitV else none) = if (if p.opn then some (arrV p.now) else none : Option Value).isSome then none else (if stP p then some unitV else none)
    rw [e1]
    by_cases ho : p.opn = true
    · rw [if_pos ho, hk p hg ho]
      rfl
    · rw [if_neg ho]
      unfold stP
      rw [if_neg ho]
      rfl
/-- What is told of a sector: its bytes, and whether it can be read. -/
def sectB (L : List Pl) (k : Int) : List UInt8 := (getP L k).elim z128 fun p => if p.torn then z128 else p.now
def sectW (L : List Pl) (k : Int) : Bool := (getP L k).elim true fun p => !p.torn
theorem sect_open {L : List Pl} (h : OpnOk L) (k : Int) : arrV (sectB L k) = (wrF L k).getD (arrV (safeB L k)) ∧ sectW L k = ((wrF L k).isSome || !(toF L k).isSome) := by
  have hk := h k
  unfold safeB wrF toF sectB sectW
  cases hg : getP L k with
  | none => exact ⟨rfl, rfl⟩
  | some p =>
    show arrV (if p.torn then z128 else p.now) = (if p.opn then some (arrV p.now) else none : Option Value).getD (arrV (if stP p then z128 else sbP p)) ∧ (!p.torn) = ((if p.opn then some (arrV p.now) else none : Option Value).isSome || !(if stP p then some unitV else none : Option Value).isSome)
    by_cases ho : p.opn = true
    · rw [if_pos ho, hk p hg ho]
      exact ⟨rfl, rfl⟩
    · rw [if_neg ho]
      unfold stP sbP
      rw [if_neg ho, if_neg ho]
      cases p.torn <;> exact ⟨rfl, rfl⟩
theorem rawP_sect (S : DS) (k : Nat) : rawP S k = sectB S.L k := by
  rw [rawP_get]
  unfold sectB
  cases getP S.L k <;> rfl
theorem readS_sect (S : DS) (k : Int) : readS S k = if k < 0 ∨ 1024 ≤ k then ([], 1) else if sectW S.L k then (sectB S.L k, 0) else ([], 9) := by
  rw [readS_get]
  unfold sectB sectW
  cases getP S.L k with
  | none => rfl
  | some p =>
    show (if k < 0 ∨ 1024 ≤ k then ([], 1) else if p.torn then ([], 9) else (p.now, 0)) = if k < 0 ∨ 1024 ≤ k then ([], 1) else if (!p.torn) = true then (if p.torn then z128 else p.now, 0) else ([], 9)
    split
    · rfl
    · cases p.torn <;> rfl
theorem safeB_len {S : DS} (h : DOk S) (k : Int) : (safeB S.L k).length = 128 := by
  unfold safeB
  cases hg : getP S.L k with
  | none => rfl
  | some p =>
    have h1 := h.full p (getP_plc hg).1
    show (if stP p then z128 else sbP p : List UInt8).length = 128
    split
    · rfl
    · unfold sbP
      split
      · exact h1.2
      · exact h1.1
theorem sectB_len {S : DS} (h : DOk S) (k : Int) : (sectB S.L k).length = 128 := by
  unfold sectB
  cases hg : getP S.L k with
  | none => rfl
  | some p =>
    have h1 := h.full p (getP_plc hg).1
    show (if p.torn then z128 else p.now : List UInt8).length = 128
    split
    · rfl
    · exact h1.1
theorem wrF_some {L : List Pl} {k : Int} {v : Value} (h : wrF L k = some v) : ∃ p, getP L k = some p ∧ p.opn = true ∧ v = arrV p.now := by
  unfold wrF at h
  cases hg : getP L k with
  | none => rw [hg] at h; cases h
  | some p =>
    rw [hg] at h
    have h : (if p.opn then some (arrV p.now) else none) = some v := h
    split at h
    · rename_i ho
      injection h with h
      exact ⟨p, rfl, ho, h.symm⟩
    · cases h
theorem wrF_low {S : DS} (h : DOk S) {k : Int} {v : Value} (hv : wrF S.L k = some v) : 0 ≤ k ∧ k < 1024 := by
  obtain ⟨p, hp, _⟩ := wrF_some hv
  obtain ⟨h1, h2⟩ := getP_plc hp
  have := h.low p h1
  omega
theorem toF_low {S : DS} (h : DOk S) {k : Int} {v : Value} (hv : toF S.L k = some v) : 0 ≤ k ∧ k < 1024 := by
  unfold toF at hv
  cases hg : getP S.L k with
  | none => rw [hg] at hv; cases hv
  | some p =>
    obtain ⟨h1, h2⟩ := getP_plc hg
    have := h.low p h1
    omega
/-- The places that aren't safe, rising. -/
def openK (L : List Pl) : List Int := (L.filter fun p => p.opn).map fun p => (p.plc : Int)
theorem openK_at : ∀ (L : List Pl), L.Pairwise (fun p q => p.plc < q.plc) → ∀ (i : Nat) (k : Int), (openK L)[i]? = some k ↔ ∃ p, getP L k = some p ∧ p.opn = true ∧ openB L k = i
  | [], _, i, k => by simp [openK, getP_nil]
  | q :: L, h, i, k => by
    rw [List.pairwise_cons] at h
    have ih := openK_at L h.2
    have hz : openB (q :: L) (q.plc : Int) = 0 := by
      unfold openB
      rw [List.length_eq_zero_iff, List.filter_eq_nil_iff]
      intro p hp
      have : q.plc ≤ p.plc := by
        rcases List.mem_cons.1 hp with rfl | hp
        · exact Nat.le_refl _
        · exact Nat.le_of_lt (h.1 p hp)
      simp
      intro _
      omega
    have hgt : ∀ p, getP L k = some p → (q.plc : Int) < k := fun p hp => by
      obtain ⟨h1, h2⟩ := getP_plc hp
      have := h.1 p h1
      omega
    rw [getP_cons]
    by_cases ho : q.opn = true
    · have e : openK (q :: L) = (q.plc : Int) :: openK L := by simp [openK, ho]
      rw [e]
      by_cases hk : (q.plc : Int) = k
      · rw [if_pos hk]
        subst hk
        cases i with
        | zero => simp [ho, hz]
        | succ i =>
          rw [List.getElem?_cons_succ]
          constructor
          · intro h2
            obtain ⟨p, hp, _⟩ := (ih i _).1 h2
            have := hgt p hp
            omega
          · rintro ⟨p, _, _, h3⟩
            rw [hz] at h3
            cases h3
      · rw [if_neg hk]
        have e2 : ∀ p, getP L k = some p → openB (q :: L) k = openB L k + 1 := fun p hp => by
          have h3 := hgt p hp
          simp [openB, ho, h3]
        cases i with
        | zero =>
          constructor
          · intro h2
            rw [List.getElem?_cons_zero] at h2
            injection h2 with h2
            exact absurd h2 hk
          · rintro ⟨p, hp, _, h3⟩
            rw [e2 p hp] at h3
            cases h3
        | succ i =>
          rw [List.getElem?_cons_succ, ih i k]
          constructor
          · rintro ⟨p, hp, h2, h3⟩
            exact ⟨p, hp, h2, by rw [e2 p hp, h3]⟩
          · rintro ⟨p, hp, h2, h3⟩
            rw [e2 p hp] at h3
            exact ⟨p, hp, h2, by omega⟩
    · have e : openK (q :: L) = openK L := by simp [openK, ho]
      have e2 : openB (q :: L) k = openB L k := by simp [openB, ho]
      rw [e, e2]
      by_cases hk : (q.plc : Int) = k
      · rw [if_pos hk]
        subst hk
        constructor
        · intro h2
          obtain ⟨p, hp, _⟩ := (ih i _).1 h2
          have := hgt p hp
          omega
        · rintro ⟨p, hp, h2, _⟩
          injection hp with hp
          rw [hp] at ho
          exact absurd h2 ho
      · rw [if_neg hk]
        exact ih i k
theorem openK_rise {L : List Pl} (h : L.Pairwise (fun p q => p.plc < q.plc)) : (openK L).Pairwise (· < ·) := by
  unfold openK
  rw [List.pairwise_map]
  exact (h.filter _).imp fun h => by omega
theorem openK_mem {L : List Pl} (h : L.Pairwise (fun p q => p.plc < q.plc)) (k : Int) : k ∈ openK L ↔ (wrF L k).isSome = true := by
  rw [List.mem_iff_getElem?]
  constructor
  · rintro ⟨i, hi⟩
    obtain ⟨p, hp, ho, _⟩ := (openK_at L h i k).1 hi
    unfold wrF
    rw [hp]
    show (if p.opn then some (arrV p.now) else none : Option Value).isSome = true
    rw [if_pos ho]
    rfl
  · intro hs
    obtain ⟨v, hv⟩ := Option.isSome_iff_exists.1 hs
    obtain ⟨p, hp, ho, _⟩ := wrF_some hv
    exact ⟨openB L k, (openK_at L h _ k).2 ⟨p, hp, ho, rfl⟩⟩
/-- How far the power's return has come: the first j of the open places have met their fates. -/
def metB (L : List Pl) (fs : List UInt8) (j : Nat) (k : Int) : List UInt8 := if (wrF L k).isSome ∧ openB L k < j then safeB (bootL fs 0 L) k else safeB L k
def metT (L : List Pl) (fs : List UInt8) (j : Nat) (k : Int) : Option Value := if (wrF L k).isSome ∧ openB L k < j then toF (bootL fs 0 L) k else toF L k
theorem metB_zero (L : List Pl) (fs : List UInt8) : metB L fs 0 = safeB L := by
  funext k
  unfold metB
  rw [if_neg (fun h => Nat.not_lt_zero _ h.2)]
theorem metT_zero (L : List Pl) (fs : List UInt8) : metT L fs 0 = toF L := by
  funext k
  unfold metT
  rw [if_neg (fun h => Nat.not_lt_zero _ h.2)]
theorem boot_open {L : List Pl} (hL : L.Pairwise (fun p q => p.plc < q.plc)) (hO : OpnOk L) (fs : List UInt8) {k : Int} {p : Pl} (hp : getP L k = some p) (ho : p.opn = true) :
    safeB (bootL fs 0 L) k = (if fate fs (openB L k) = 1 then p.now else if fate fs (openB L k) = 2 then z128 else safeB L k) ∧ toF (bootL fs 0 L) k = if fate fs (openB L k) = 1 then none else if fate fs (openB L k) = 2 then some unitV else toF L k := by
  have h1 := getP_boot fs L 0 k hL
  rw [hp, Nat.zero_add] at h1
  have h1 : getP (bootL fs 0 L) k = some (if p.opn then bootP p (fate fs (openB L k)) else p) := h1
  rw [if_pos ho] at h1
  have ht := hO k p hp ho
  unfold safeB toF
  rw [h1, hp]
  show (if stP (bootP p (fate fs (openB L k))) then z128 else sbP (bootP p (fate fs (openB L k)))) = _ ∧ (if stP (bootP p (fate fs (openB L k))) then some unitV else none) = _
  show (if stP (bootP p (fate fs (openB L k))) then z128 else sbP (bootP p (fate fs (openB L k)))) = (if fate fs (openB L k) = 1 then p.now else if fate fs (openB L k) = 2 then z128 else (if stP p then z128 else sbP p)) ∧ (if stP (bootP p (fate fs (openB L k))) then some unitV else none) = (if fate fs (openB L k) = 1 then none else if fate fs (openB L k) = 2 then some unitV else (if stP p then some unitV else none))
  have hlt : fate fs (openB L k) < 3 := by
    unfold fate
    split
    · decide
    · exact Nat.mod_lt _ (by decide)
  have e1 : stP p = p.old := by unfold stP; rw [if_pos ho]
  have e2 : sbP p = p.was := by unfold sbP; rw [if_pos ho]
  rw [e1, e2]
  generalize fate fs (openB L k) = f at hlt
  have e3 : stP (bootP p f) = if f = 0 then p.old else if f = 2 then true else p.torn := rfl
  have e4 : sbP (bootP p f) = if f = 0 then p.was else p.now := rfl
  rw [e3, e4, ht]
  obtain rfl | rfl | rfl : f = 0 ∨ f = 1 ∨ f = 2 := by omega
  · exact ⟨rfl, rfl⟩
  · exact ⟨rfl, rfl⟩
  · exact ⟨rfl, rfl⟩
theorem boot_shut {L : List Pl} (hL : L.Pairwise (fun p q => p.plc < q.plc)) (fs : List UInt8) {k : Int} (hw : wrF L k = none) : safeB (bootL fs 0 L) k = safeB L k ∧ toF (bootL fs 0 L) k = toF L k := by
  have h1 := getP_boot fs L 0 k hL
  unfold safeB toF
  rw [h1]
  cases hp : getP L k with
  | none => exact ⟨rfl, rfl⟩
  | some p =>
    have ho : ¬ p.opn = true := fun ho => by
      unfold wrF at hw
      rw [hp] at hw
      have hw : (if p.opn then some (arrV p.now) else none) = none := hw
      rw [if_pos ho] at hw
      cases hw
    show (if stP (if p.opn then _ else p) then z128 else sbP (if p.opn then _ else p)) = (if stP p then z128 else sbP p) ∧ (if stP (if p.opn then _ else p) then some unitV else none) = (if stP p then some unitV else none)
    rw [if_neg ho]
    exact ⟨rfl, rfl⟩
theorem met_all {L : List Pl} (hL : L.Pairwise (fun p q => p.plc < q.plc)) (fs : List UInt8) (k : Int) : metB L fs (openK L).length k = safeB (bootL fs 0 L) k ∧ metT L fs (openK L).length k = toF (bootL fs 0 L) k := by
  unfold metB metT
  cases hw : wrF L k with
  | none =>
    obtain ⟨h1, h2⟩ := boot_shut hL fs hw
    rw [if_neg (fun h => Bool.noConfusion h.1), if_neg (fun h => Bool.noConfusion h.1)]
    exact ⟨h1.symm, h2.symm⟩
  | some v =>
    obtain ⟨p, hp, ho, _⟩ := wrF_some hw
    have h1 := (openK_at L hL _ k).2 ⟨p, hp, ho, rfl⟩
    have h2 := (List.getElem?_eq_some_iff.1 h1).1
    rw [if_pos ⟨rfl, h2⟩, if_pos ⟨rfl, h2⟩]
    exact ⟨rfl, rfl⟩
theorem wrF_boot {L : List Pl} (hL : L.Pairwise (fun p q => p.plc < q.plc)) (fs : List UInt8) : wrF (bootL fs 0 L) = fun _ => none := by
  funext k
  have h1 := getP_boot fs L 0 k hL
  unfold wrF
  rw [h1]
  cases hp : getP L k with
  | none => rfl
  | some p =>
    show (if (if p.opn then bootP p (fate fs (0 + openB L k)) else p).opn then some (arrV _) else none) = none
    by_cases ho : p.opn = true
    · rw [if_pos ho]
      rfl
    · rw [if_neg ho, if_neg ho]
theorem opn_boot {L : List Pl} (hL : L.Pairwise (fun p q => p.plc < q.plc)) (fs : List UInt8) : OpnOk (bootL fs 0 L) := fun k p hp ho => by
  rw [getP_boot fs L 0 k hL] at hp
  obtain ⟨q, _, rfl⟩ := Option.map_eq_some_iff.1 hp
  by_cases h : q.opn = true
  · rw [if_pos h] at ho
    cases ho
  · rw [if_neg h] at ho
    exact absurd ho h
/-- One place more. -/
theorem met_next {L : List Pl} (hL : L.Pairwise (fun p q => p.plc < q.plc)) (fs : List UInt8) {j : Nat} {x : Int} (hx : (openK L)[j]? = some x) (k : Int) :
    metB L fs (j + 1) k = (if k = x then safeB (bootL fs 0 L) k else metB L fs j k) ∧ metT L fs (j + 1) k = (if k = x then toF (bootL fs 0 L) k else metT L fs j k) := by
  obtain ⟨p, hp, ho, hb⟩ := (openK_at L hL j x).1 hx
  unfold metB metT
  by_cases hk : k = x
  · subst hk
    have hw : (wrF L k).isSome = true := (openK_mem hL k).1 (List.mem_iff_getElem?.2 ⟨j, hx⟩)
    have hc : (wrF L k).isSome = true ∧ openB L k < j + 1 := ⟨hw, by omega⟩
    exact ⟨by rw [if_pos hc, if_pos rfl], by rw [if_pos hc, if_pos rfl]⟩
  · rw [if_neg hk, if_neg hk]
    have e : ((wrF L k).isSome = true ∧ openB L k < j + 1) = ((wrF L k).isSome = true ∧ openB L k < j) := by
      apply propext
      constructor
      · rintro ⟨h1, h2⟩
        refine ⟨h1, ?_⟩
        rcases Nat.lt_or_ge (openB L k) j with h3 | h3
        · exact h3
        · obtain ⟨v, hv⟩ := Option.isSome_iff_exists.1 h1
          obtain ⟨q, hq, hoq, _⟩ := wrF_some hv
          have h4 := (openK_at L hL j k).2 ⟨q, hq, hoq, by omega⟩
          rw [hx] at h4
          injection h4 with h4
          exact absurd h4.symm hk
      · rintro ⟨h1, h2⟩
        exact ⟨h1, by omega⟩
    simp only [e, and_self]
theorem met_here {L : List Pl} (hL : L.Pairwise (fun p q => p.plc < q.plc)) (fs : List UInt8) {j : Nat} {x : Int} (hx : (openK L)[j]? = some x) : metB L fs j x = safeB L x ∧ metT L fs j x = toF L x := by
  obtain ⟨p, hp, ho, hb⟩ := (openK_at L hL j x).1 hx
  unfold metB metT
  rw [if_neg (fun h => by omega), if_neg (fun h => by omega)]
  exact ⟨rfl, rfl⟩
end Go.Proofs.YtbodiioemohenaaDoor

/- Maps of int keys: cleared at once; a range over one, whichever order. Condition: the keys are below 1024. -/
namespace Go.Proofs.YtbodiioemohenaaDoor
open Go.RowKit Go.ChangeMaps Go.MapKept

theorem run_clearI {w : World} {b : Nat} {f : Int → Option Value} (h : MapI w b f) {t e : TypeId} (ht : Tryd.prog.underlying t = some (.map 3 e)) (ty : TypeId) : ∃ w', (Builtin.clear_ #[t] ty #[.map (some b)]).run Tryd.prog w = .ok (.tuple #[]) w' ∧ MapI w' b (fun _ => none) ∧ Chg (fun j => j = b) w w' := by
  obtain ⟨D, ⟨es, clock, hb, F, hs, hD⟩, h2⟩ := h.own
  refine ⟨setBlock w b (.map #[] clock), ?_, ⟨⟨.map [], ⟨#[], clock, heap_setBlock_same hb _, ⟨by simp, stamped_empty clock, by simp⟩, Nat.le_refl _, rfl⟩, fun _ _ => ⟨rfl, fun _ h => by cases h⟩⟩, fun _ _ h => by cases h⟩, chg_grown ⟨rfl, rfl, rfl, by simp [setBlock], fun i _ hi => heap_setBlock_other hb _ (fun e => hi (by rw [e]))⟩⟩
  simp [Builtin.clear_, run_underlying ht, MapKept.run_getObj_map hb, MapKept.run_setObj_map _ hb, setBlock]
theorem wpList_clearI {w : World} {ops : Array Oper} {rest : List Oper} {o : Oper} {a : Act} {Q : Exit → Act → World → Prop} (hg : o.guard = none) (m : Operand) (t e : TypeId) (hop : o.op = Op.call { callee := Callee.builtin Builtin.clear, args := #[m], argTypes := #[t] }) (ht : Tryd.prog.underlying t = some (.map 3 e))
    {b : Nat} {f : Int → Option Value} (hm : a.eval m = .map (some b)) (h : MapI w b f)
    (hK : ∀ w', MapI w' b (fun _ => none) → Chg (fun j => j = b) w w' → wpList Tryd.prog ops Q rest (a.put o.dst (.tuple #[])) w') : wpList Tryd.prog ops Q (o :: rest) a w := by
  refine wpList_plain hg fun K' hK' => ?_
  obtain ⟨w', hrun, k1, k2⟩ := run_clearI h ht o.type
  unfold Oper.wp
  simp [execOp, hop, resolve, invoke, builtin, hm, hrun, Result.andThen]
  exact hK' _ _ (hK w' k1 k2)
/-- A range over a map is under way: which keys are still to come, how many. -/
structure RngI (w : World) (b r : Nat) (f : Int → Option Value) (left : Int → Bool) (cnt : Nat) : Prop where
  rng : ∃ D Lf, w.ranges Tryd.prog 3 heldV b r (Maps.size D) D Lf cnt ∧ (∀ x, (Lit.int .i64 x).wf = true → Maps.has D (.int .i64 x) = (f x).isSome ∧ ∀ v, f x = some v → ∀ z, D.atKey (.int .i64 x) z = .held v) ∧ (∀ x, (Lit.int .i64 x).wf = true → Lf (.int .i64 x) = left x)
  low : ∀ x v, f x = some v → 0 ≤ x ∧ x < 1024
  has : ∀ x, left x = true → (f x).isSome = true
theorem RngI.map {w : World} {b r : Nat} {f : Int → Option Value} {left : Int → Bool} {cnt : Nat} (h : RngI w b r f left cnt) : MapI w b f := by
  obtain ⟨D, Lf, h1, h2, _⟩ := h.rng
  exact ⟨⟨D, h1.owns, h2⟩, h.low⟩
theorem RngI.left_eq {w : World} {b r : Nat} {f : Int → Option Value} {left : Int → Bool} {cnt : Nat} (h : RngI w b r f left cnt) : w.rangeLeft b r = cnt := by
  obtain ⟨D, Lf, h1, _⟩ := h.rng
  exact h1.left_eq
theorem RngI.lt {w : World} {b r : Nat} {f : Int → Option Value} {left : Int → Bool} {cnt : Nat} (h : RngI w b r f left cnt) : r < w.heap.size ∧ r ≠ b := by
  obtain ⟨D, Lf, h1, _⟩ := h.rng
  exact ⟨h1.lt, h1.ne⟩
theorem RngI.chg {w w' : World} {b r : Nat} {f : Int → Option Value} {left : Int → Bool} {cnt : Nat} {G : Nat → Prop} (h : RngI w b r f left cnt) (hc : Chg G w w') (hb : ¬ G b) (hr : ¬ G r) : RngI w' b r f left cnt := by
  have hbl := h.map.lt
  have hrl := h.lt.1
  obtain ⟨D, Lf, ⟨es, clock, since, seen, c0, h1, h2, h3, h4, h5, h6⟩, h7⟩ := h.rng
  exact ⟨⟨D, Lf, ⟨es, clock, since, seen, c0, (hc.keep b hbl hb).trans h1, h2, h3, h4, (hc.keep r hrl hr).trans h5, h6⟩, h7⟩, h.low, h.has⟩
theorem wpList_rangeI {w : World} {ops : Array Oper} {rest : List Oper} {o : Oper} {a : Act} {Q : Exit → Act → World → Prop} (hg : o.guard = none) (m : Operand) (t e : TypeId) (hop : o.op = Op.range t m) (ht : Tryd.prog.underlying t = some (.map 3 e))
    {b : Nat} {f : Int → Option Value} (hm : a.eval m = .map (some b)) (h : MapI w b f)
    (hK : ∀ w', (∃ cnt, RngI w' b w.heap.size f (fun x => (f x).isSome) cnt) → Below w.heap.size w w' → w'.heap.size = w.heap.size + 1 → wpList Tryd.prog ops Q rest (a.put o.dst (.pointer (some ⟨w.heap.size, 0, none⟩))) w') : wpList Tryd.prog ops Q (o :: rest) a w := by
  obtain ⟨D, h1, h2⟩ := h.own
  exact wpList_range_own w hg m t hop 3 e intK ht heldV b (Maps.size D) D hm h1 fun w' k1 k2 k3 => hK w' ⟨_, ⟨D, _, k1, h2, fun x hx => (h2 x hx).1⟩, h.low, fun _ hx => hx⟩ ⟨k2.os, k2.tape, k2.output, k2.size, fun i hi => k2.block i hi (by simp)⟩ k3
set_option maxRecDepth 100000 in
theorem wpList_nextI {w : World} {ops : Array Oper} {rest : List Oper} {o : Oper} {a : Act} {Q : Exit → Act → World → Prop} (hg : o.guard = none) (it : Operand) (hop : o.op = Op.next it false)
    {b r : Nat} {f : Int → Option Value} {left : Int → Bool} {cnt : Nat} (hit : a.eval it = .pointer (some ⟨r, 0, none⟩)) (h : RngI w b r f left cnt)
    (hDone : (∀ x, 0 ≤ x ∧ x < 1024 → left x = false) → wpList Tryd.prog ops Q rest (a.put o.dst (.tuple #[.bool false])) w)
    (hMore : ∀ (x : Int) (c : Value) (w' : World) (cnt' : Nat), 0 ≤ x ∧ x < 1024 → left x = true → f x = some c → RngI w' b r f (fun z => left z && !(decide (z = x))) cnt' → cnt' < cnt → Chg (fun j => j = r) w w' → w'.heap.size = w.heap.size →
      (Instr.entry (.pointer (some ⟨r, 0, none⟩))).run Tryd.prog w' = .ok (.tuple #[.int .i64 x, c]) w' → wpList Tryd.prog ops Q rest (a.put o.dst (.tuple #[.bool true, .int .i64 x, c])) w') : wpList Tryd.prog ops Q (o :: rest) a w := by
  obtain ⟨D, Lf, h1, h2, h3⟩ := h.rng
  refine wpList_next_ranges w hg it hop 3 intK heldV (Value.int .i64) id (fun key kl hk => ?_) (fun v y _ => ⟨v, rfl⟩) b r _ D Lf cnt hit h1 (fun _ hl => hDone fun x hx => ?_) (fun x c kl y w' cnt' hk hl hv hat hr hlt hgr hsz hen => ?_)
  · obtain ⟨x, rfl, _⟩ := Maps.keyOf_int_inv Tryd.underlying3 hk
    exact ⟨x, rfl⟩
  · rw [← h3 x (wfI hx)]
    exact hl _
  · obtain ⟨x', hx1, rfl, hwf⟩ := Maps.keyOf_int_inv Tryd.underlying3 hk
    obtain rfl : x = x' := by injection hx1
    have hlx : left x = true := by rw [← h3 x hwf]; exact hl
    obtain ⟨u, hu⟩ := Option.isSome_iff_exists.1 (h.has x hlx)
    have hc : u = c := by
      have e1 := (h2 x hwf).2 u hu (.held u)
      rw [hat] at e1
      unfold heldV at hv
      injection hv with hv
      rw [← hv] at e1
      injection e1 with e1
      exact e1.symm
    subst hc
    refine hMore x u w' cnt' (h.low x u hu) hlx hu ⟨⟨D, _, hr, h2, fun z hz => ?_⟩, h.low, fun z hz => ?_⟩ hlt (chg_grown hgr) hsz hen
    · show (Lf (.int .i64 z) && !(Lit.int .i64 z).sameKey (.int .i64 x)) = (left z && !decide (z = x))
      rw [h3 z hz]
      simp [Lit.sameKey]
    · rw [Bool.and_eq_true] at hz
      exact h.has z hz.1
theorem ranges_tight {w : World} {b r n cnt : Nat} {D : DataW Value} {Lf : Lit → Bool} (h : w.ranges Tryd.prog 3 heldV b r n D Lf cnt) : w.ranges Tryd.prog 3 heldV b r (Maps.size D) D Lf cnt := by
  obtain ⟨es, clock, since, seen, c0, hb, F, _, hD, h5⟩ := h
  refine ⟨es, clock, since, seen, c0, hb, F, ?_, hD, h5⟩
  rw [hD, Maps.size_eq, length_sorted, List.length_map]
  simp
/-- A key is deleted in the round. -/
theorem wpList_deleteR {w : World} {ops : Array Oper} {rest : List Oper} {o : Oper} {a : Act} {Q : Exit → Act → World → Prop} (hg : o.guard = none) (m x : Operand) (t e : TypeId) (hop : o.op = Op.call { callee := Callee.builtin Builtin.delete, args := #[m, x], argTypes := #[t, 3] }) (ht : Tryd.prog.underlying t = some (.map 3 e))
    {b r : Nat} {f : Int → Option Value} {left : Int → Bool} {cnt : Nat} (hm : a.eval m = .map (some b)) (h : RngI w b r f left cnt) {k : Int} (hk : (Lit.int .i64 k).wf = true) (hx : a.eval x = .int .i64 k)
    (hK : ∀ w' cnt', RngI w' b r (updF f k none) (fun z => left z && !(decide (z = k))) cnt' → cnt' ≤ cnt → Chg (fun j => j = b) w w' → wpList Tryd.prog ops Q rest (a.put o.dst (.tuple #[])) w') : wpList Tryd.prog ops Q (o :: rest) a w := by
  have hmap := h.map
  obtain ⟨D, Lf, h1, h2, h3⟩ := h.rng
  refine wpList_delete_ranges w hg m x t 3 hop e intK ht heldV b r (Maps.size D) D Lf cnt hm h1 _ _ hx (keyI hk) fun w' cnt' k1 k2 k3 => hK w' cnt' ⟨⟨D.del (.int .i64 k), _, ranges_tight k1, fun y hy => ?_, fun z hz => ?_⟩, fun y v hv => ?_, fun y hy => ?_⟩ k2 (chg_turned k3)
  · unfold updF
    by_cases ey : y = k
    · subst ey
      rw [if_pos rfl, Maps.has_del_same]
      exact ⟨rfl, fun u hu => by cases hu⟩
    · have hne : (Lit.int .i64 y) ≠ .int .i64 k := fun h => ey (by injection h)
      rw [if_neg ey, Maps.has_del_other hne]
      exact ⟨(h2 y hy).1, fun u hu z => by rw [Maps.atKey_del_other hne]; exact (h2 y hy).2 u hu z⟩
  · show (Lf (.int .i64 z) && !(Lit.int .i64 z).sameKey (.int .i64 k)) = (left z && !decide (z = k))
    rw [h3 z hz]
    simp [Lit.sameKey]
  · unfold updF at hv
    split at hv
    · cases hv
    · exact h.low y v hv
  · simp only [Bool.and_eq_true, Bool.not_eq_true', decide_eq_false_iff_not] at hy
    unfold updF
    rw [if_neg hy.2]
    exact h.has y hy.1
/-- The look-ups, the value told by the caller. -/
theorem wpList_lookI {w : World} {ops : Array Oper} {rest : List Oper} {o : Oper} {a : Act} {Q : Exit → Act → World → Prop} (hg : o.guard = none) (m x : Operand) (t e : TypeId) (hop : o.op = Op.lookup t m x false) (ht : Tryd.prog.underlying t = some (.map 3 e)) {z : Value} (hz : (Tryd.prog.info? e).bind (·.zero) = some z)
    {b : Nat} {f : Int → Option Value} (hm : a.eval m = .map (some b)) (h : MapI w b f) {k : Int} (hk : (Lit.int .i64 k).wf = true) (hx : a.eval x = .int .i64 k) (v : Value) (hv : (f k).getD z = v)
    (hK : wpList Tryd.prog ops Q rest (a.put o.dst v) w) : wpList Tryd.prog ops Q (o :: rest) a w :=
  wpList_lookupI hg m x t e false hop ht (zero_run hz w) hm h hk hx (by subst hv; exact hK)
theorem wpList_lookI_ok {w : World} {ops : Array Oper} {rest : List Oper} {o : Oper} {a : Act} {Q : Exit → Act → World → Prop} (hg : o.guard = none) (m x : Operand) (t e : TypeId) (hop : o.op = Op.lookup t m x true) (ht : Tryd.prog.underlying t = some (.map 3 e)) {z : Value} (hz : (Tryd.prog.info? e).bind (·.zero) = some z)
    {b : Nat} {f : Int → Option Value} (hm : a.eval m = .map (some b)) (h : MapI w b f) {k : Int} (hk : (Lit.int .i64 k).wf = true) (hx : a.eval x = .int .i64 k) (v : Value) (hv : (f k).getD z = v) (there : Bool) (hth : (f k).isSome = there)
    (hK : wpList Tryd.prog ops Q rest (a.put o.dst (.tuple #[v, .bool there])) w) : wpList Tryd.prog ops Q (o :: rest) a w :=
  wpList_lookupI hg m x t e true hop ht (zero_run hz w) hm h hk hx (by subst hv; subst hth; exact hK)
end Go.Proofs.YtbodiioemohenaaDoor

/- A map of int keys made, looked up in a walk over a region that only reads. Condition: the keys are below 1024. -/
namespace Go.Proofs.YtbodiioemohenaaDoor
open Go.RowKit

theorem MapI.below {w w' : World} {b B : Nat} {f : Int → Option Value} (h : MapI w b f) (hb : Below B w w') (hB : b < B) : MapI w' b f := h.keep (hb.block b hB)
/-- A map is made: which block, what it holds. -/
theorem wpList_makeMapI {w : World} {ops : Array Oper} {rest : List Oper} {o : Oper} {a : Act} {Q : Exit → Act → World → Prop} (hg : o.guard = none) (t : TypeId) (hop : o.op = Op.makeMap t none) (N : Nat) (hN : w.heap.size = N)
    (hK : ∀ w', MapI w' N (fun _ => none) → Below N w w' → w'.heap.size = N + 1 → wpList Tryd.prog ops Q rest (a.put o.dst (.map (some N))) w') : wpList Tryd.prog ops Q (o :: rest) a w := by
  subst hN
  refine wpList_plain hg fun K' hK' => ?_
  have hrun : (Instr.makeMap t none).run Tryd.prog w = .ok (.map (some w.heap.size)) (w.alloc (.map #[] 0)) := run_makeMap t w
  unfold Oper.wp
  simp [execOp, hop, hrun, Result.andThen]
  exact hK' _ _ (hK _ (MapI.made w) ((Below.refl _ _).alloc (Nat.le_refl _) _) (World.size_alloc _ _))
theorem wpQuiet_lookI {ops : Array Oper} {C : World → Prop} {Q : Act → Prop} {rest : List Oper} {op : Oper} {T : List Value} {ds : List Deferred} (hw : Region.wanted op (yielded ops T.toArray) = true) (d : Nat) (he : op.dst = some d) (m x : Operand) (t e : TypeId) (ho : op.op = .lookup t m x false) (ht : Tryd.prog.underlying t = some (.map 3 e)) {z : Value} (hz : (Tryd.prog.info? e).bind (·.zero) = some z)
    {b : Nat} {f : Int → Option Value} (hm : (⟨T.toArray, ds⟩ : Act).eval m = .map (some b)) (hS : ∀ w, C w → MapI w b f) {k : Int} (hk : (Lit.int .i64 k).wf = true) (hx : (⟨T.toArray, ds⟩ : Act).eval x = .int .i64 k) (v : Value) (hv : (f k).getD z = v)
    (h : wpQuiet Tryd.prog ops C Q rest ⟨(T.set d v).toArray, ds⟩) : wpQuiet Tryd.prog ops C Q (op :: rest) ⟨T.toArray, ds⟩ := by
  refine wpQuiet_step fun K hK => ?_
  rw [if_pos hw]
  refine ⟨v, fun w hC => ?_, hK _ ?_⟩
  · have h1 := ((hS w hC).look ht (zero_run hz w) hk).1
    rw [hv] at h1
    unfold Oper.quietAt execOp
    simp only [ho, hm, hx, Sem.run_bind, Sem.run_pure, h1, Result.andThen_ok]
    exact ⟨rfl, rfl⟩
  · rw [he]
    simpa [Act.put] using h
theorem mapI_drewN {w : World} {b : Nat} {f : Int → Option Value} (h : MapI w b f) : ∀ W, (∃ n, W = w.drewN n) → MapI W b f := fun W hW => by
  obtain ⟨n, rfl⟩ := hW
  exact h.drewN n
end Go.Proofs.YtbodiioemohenaaDoor
