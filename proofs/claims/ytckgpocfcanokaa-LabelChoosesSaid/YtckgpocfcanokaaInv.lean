/- A drawn region whose operations may come in many orders, each of which keeps one invariant: a law by the invariant, in the place of a walk for each order. No condition of its own. -/
import Derived.Test.YtckgpocfcanokaaGen
import Derived.Orders
import Derived.OrdersHeld
import Derived.RegionTactic
import Derived.Great.BuildSlice
namespace Go.Proofs.Ytckgpocfcanokaa
open Go.RowKit

/-- The first ones by L, no later one. -/
def lst (L : List Bool) (m : Nat) : Array Bool := (L ++ List.replicate m false).toArray
theorem lst_size (L : List Bool) (m : Nat) : (lst L m).size = L.length + m := by simp [lst]
theorem lst_get {L : List Bool} {m i : Nat} {d : Bool} (h : i < L.length) : (lst L m).getD i d = L.getD i d := by
  have h2 : i < (lst L m).size := by rw [lst_size]; omega
  rw [Array.getD_eq_getD_getElem?]
  unfold lst
  rw [List.getElem?_toArray, List.getElem?_append_left h]
  rfl
theorem lst_set {L : List Bool} {m i : Nat} (h : i < L.length) : (lst L m).setIfInBounds i true = lst (L.set i true) m := by
  unfold lst
  rw [List.setIfInBounds_toArray, List.set_append_left _ _ h]
/-- Each edge leads back. -/
def backB (ops : Array Oper) : Bool := (List.range ops.size).all fun i => ((ops[i]?).map fun o => o.after.all fun e => decide (e.on < i)).getD false
/-- Operation j waits for operation i, through some of the first n. -/
def waits (md : Region.Mode) (ops : Array Oper) (n : Nat) : Nat → Nat → Nat → Bool
  | 0, _, _ => false
  | f + 1, j, i => ((ops[j]?).map fun o => o.after.any fun e => Region.binds md e && (decide (e.on < n) && (decide (e.on = i) || waits md ops n f e.on i))).getD false
/-- Each later operation waits for each of the first n. -/
def lateB (md : Region.Mode) (ops : Array Oper) (n : Nat) : Bool := (List.range ops.size).all fun j => decide (j < n) || (List.range n).all fun i => waits md ops n (n + 1) j i
/-- What is done waits for nothing that isn't. -/
def closed (md : Region.Mode) (ops : Array Oper) (n : Nat) (L : List Bool) : Prop := ∀ k, k < n → L.getD k false = true → ∀ o, ops[k]? = some o → ∀ e ∈ o.after, Region.binds md e = true → L.getD e.on false = true
theorem waits_done {md : Region.Mode} {ops : Array Oper} {n : Nat} {L : List Bool} (hc : closed md ops n L) : ∀ (f j i : Nat), (∀ o, ops[j]? = some o → ∀ e ∈ o.after, Region.binds md e = true → e.on < n → L.getD e.on false = true) → waits md ops n f j i = true → L.getD i false = true
  | 0, _, _, _, h => by cases h
  | f + 1, j, i, hd, h => by
    unfold waits at h
    cases ho : ops[j]? with
    | none => rw [ho] at h; cases h
    | some o =>
      rw [ho] at h
      have h2 : o.after.any (fun e => Region.binds md e && (decide (e.on < n) && (decide (e.on = i) || waits md ops n f e.on i))) = true := h
      rw [Array.any_eq_true] at h2
      obtain ⟨k, hk, hee⟩ := h2
      obtain ⟨e, hke⟩ : ∃ e, e = o.after[k] := ⟨_, rfl⟩
      have he : e ∈ o.after := by rw [hke]; exact Array.getElem_mem hk
      rw [← hke, Bool.and_eq_true, Bool.and_eq_true, Bool.or_eq_true] at hee
      obtain ⟨hb, hn, hor⟩ := hee
      have hn2 := of_decide_eq_true hn
      have h1 := hd o ho e he hb hn2
      rcases hor with h3 | h3
      · rw [← of_decide_eq_true h3]
        exact h1
      · exact waits_done hc f e.on i (fun o' ho' e' he' hb' _ => hc e.on hn2 h1 o' ho' e' he' hb') h3
theorem ready_mem {md : Region.Mode} {ops : Array Oper} {listed : Array Bool} {i : Nat} (h : i ∈ Region.ready md ops listed) : ∃ o, ops[i]? = some o ∧ i < ops.size ∧ listed.getD i true = false ∧ ∀ e ∈ o.after, Region.binds md e = true → listed.getD e.on false = true := by
  unfold Region.ready at h
  rw [List.mem_filter, List.mem_range, Bool.and_eq_true] at h
  obtain ⟨h1, h2, h3⟩ := h
  cases ho : ops[i]? with
  | none => rw [ho] at h3; simp at h3
  | some o =>
    rw [ho] at h3
    refine ⟨o, rfl, h1, by simpa using h2, fun e he hb => ?_⟩
    have h4 : o.after.all (fun e => !Region.binds md e || listed.getD e.on false) = true := by simpa using h3
    have h5 := Array.all_eq_true_iff_forall_mem.1 h4 e he
    rw [hb] at h5
    simpa using h5
theorem mem_ready {md : Region.Mode} {ops : Array Oper} {listed : Array Bool} {i : Nat} {o : Oper} (ho : ops[i]? = some o) (h1 : listed.getD i true = false) (h2 : ∀ e ∈ o.after, listed.getD e.on false = true) : i ∈ Region.ready md ops listed := by
  unfold Region.ready
  rw [List.mem_filter, List.mem_range, Bool.and_eq_true]
  refine ⟨(Array.getElem?_eq_some_iff.1 ho).1, by rw [h1]; rfl, ?_⟩
  rw [ho]
  show o.after.all _ = true
  rw [Array.all_eq_true_iff_forall_mem]
  intro e he
  rw [h2 e he, Bool.or_true]
theorem least_false : ∀ (L : List Bool), false ∈ L → ∃ i, i < L.length ∧ L.getD i true = false ∧ ∀ j, j < i → L.getD j false = true
  | [], h => by simp at h
  | false :: r, _ => ⟨0, by simp, rfl, fun j hj => by omega⟩
  | true :: r, h => by
    obtain ⟨i, h1, h2, h3⟩ := least_false r (by simpa using h)
    refine ⟨i + 1, by simp; omega, h2, fun j hj => ?_⟩
    cases j with
    | zero => rfl
    | succ j => exact h3 j (by omega)
theorem count_set : ∀ (L : List Bool) (i : Nat), i < L.length → L.getD i true = false → (L.set i true).count false + 1 = L.count false
  | [], _, h, _ => by simp at h
  | b :: r, 0, _, h => by
    have hb : b = false := h
    subst hb
    simp
  | b :: r, i + 1, h, hf => by
    have h2 := count_set r i (by simpa using h) hf
    rw [List.set_cons_succ, List.count_cons, List.count_cons]
    omega
theorem all_true : ∀ (L : List Bool), L.count false = 0 → L = List.replicate L.length true
  | [], _ => rfl
  | false :: r, h => by simp at h
  | true :: r, h => by
    rw [List.length_cons, List.replicate_succ, ← all_true r (by simpa using h)]
theorem late_ready {md : Region.Mode} {ops : Array Oper} {n m : Nat} (hlate : lateB md ops n = true) (L : List Bool) (i0 i : Nat) (hl : L.length = n) (hcl : closed md ops n L) (hi0 : i0 < n) (hi2 : L.getD i0 true = false) (hi : i ∈ Region.ready md ops (lst L m)) : i < n := by
  obtain ⟨o, ho, his, hun, hdep⟩ := ready_mem hi
  rcases Nat.lt_or_ge i n with h | h
  · exact h
  · exfalso
    have hb := (List.all_eq_true.1 hlate) i (List.mem_range.2 his)
    rw [decide_eq_false (by omega), Bool.false_or] at hb
    have hb2 := (List.all_eq_true.1 hb) i0 (List.mem_range.2 hi0)
    have h1 := waits_done hcl (n + 1) i i0 (fun o' ho' e he hbd hlt => by
      rw [ho] at ho'
      obtain rfl := Option.some.inj ho'
      have h1 := hdep e he hbd
      rw [lst_get (by omega)] at h1
      exact h1) hb2
    rw [List.getD, List.getElem?_eq_getElem (by omega)] at h1 hi2
    have e1 : L[i0] = true := h1
    have e2 : L[i0] = false := hi2
    rw [e1] at e2
    cases e2
/-- The law. -/
theorem wpAny_first_aux {P : Program} {md : Region.Mode} {ops : Array Oper} {Q : Exit → Act → World → Prop} (n m : Nat) (hsz : ops.size = n + m) (hback : backB ops = true) (hready : ∀ (L : List Bool) (i0 i : Nat), L.length = n → closed md ops n L → i0 < n → L.getD i0 true = false → i ∈ Region.ready md ops (lst L m) → i < n) (I : List Bool → Act → World → Prop)
    (hstep : ∀ i o, i < n → ops[i]? = some o → ∀ (L : List Bool) (a : Act) (w : World), L.length = n → I L a w → L.getD i true = false → (∀ e ∈ o.after, Region.binds md e = true → L.getD e.on false = true) →
      ∀ K : Act → World → Prop, (∀ a w, I (L.set i true) a w → K a w) → if Region.wanted o (yielded ops a.tmps) = true then Oper.wp P o a w K Q else K (a.put o.dst undef) w)
    (hfin : ∀ a w, I (List.replicate n true) a w → wpAny P md ops Q m (lst (List.replicate n true) m) a w) :
    ∀ (c : Nat) (L : List Bool) (a : Act) (w : World), L.length = n → L.count false = c → closed md ops n L → I L a w → wpAny P md ops Q (c + m) (lst L m) a w
  | 0, L, a, w, hl, hc, _, hI => by
    have h := all_true L hc
    rw [hl] at h
    rw [Nat.zero_add, h]
    exact hfin a w (h ▸ hI)
  | c + 1, L, a, w, hl, hc, hcl, hI => by
    have hmem : false ∈ L := List.count_pos_iff.1 (by omega)
    obtain ⟨i0, hi1, hi2, hi3⟩ := least_false L hmem
    have hr0 : i0 ∈ Region.ready md ops (lst L m) := by
      cases ho : ops[i0]? with
      | none => rw [Array.getElem?_eq_none_iff] at ho; omega
      | some o =>
        refine mem_ready ho (by rw [lst_get hi1]; exact hi2) fun e he => ?_
        have hb := (List.all_eq_true.1 hback) i0 (List.mem_range.2 (by omega))
        rw [ho] at hb
        have hb2 : o.after.all (fun e => decide (e.on < i0)) = true := by simpa using hb
        have hlt := of_decide_eq_true (Array.all_eq_true_iff_forall_mem.1 hb2 e he)
        rw [lst_get (by omega)]
        exact hi3 _ hlt
    rw [show c + 1 + m = (c + m) + 1 by omega]
    refine ⟨fun hnil => ?_, fun i hi => ?_⟩
    · rw [hnil] at hr0
      cases hr0
    · obtain ⟨o, ho, his, hun, hdep⟩ := ready_mem hi
      have hin : i < n := hready L i0 i hl hcl (by omega) hi2 hi
      have hun2 : L.getD i true = false := by rw [lst_get (by omega)] at hun; exact hun
      have hdL : ∀ e ∈ o.after, Region.binds md e = true → L.getD e.on false = true := fun e he hb => by
        have h1 := hdep e he hb
        have hbk := (List.all_eq_true.1 hback) i (List.mem_range.2 his)
        rw [ho] at hbk
        have hb2 : o.after.all (fun e => decide (e.on < i)) = true := by simpa using hbk
        have hlt := of_decide_eq_true (Array.all_eq_true_iff_forall_mem.1 hb2 e he)
        rw [lst_get (by omega)] at h1
        exact h1
      have keep : ∀ k, L.getD k false = true → (L.set i true).getD k false = true := fun k hk => by
        by_cases e : i = k
        · subst e
          rw [List.getD, List.getElem?_set_self (by omega)]
          rfl
        · rw [List.getD, List.getElem?_set_ne e]
          exact hk
      have hcl2 : closed md ops n (L.set i true) := fun k hk hg o' ho' e he hb => by
        by_cases e2 : i = k
        · subst e2
          rw [ho] at ho'
          obtain rfl := Option.some.inj ho'
          exact keep _ (hdL e he hb)
        · rw [List.getD, List.getElem?_set_ne e2] at hg
          exact keep _ (hcl k hk hg o' ho' e he hb)
      refine wpOp_step ho fun K hK => hstep i o hin ho L a w hl hI hun2 hdL K (fun a' w' hI' => hK a' w' ?_)
      rw [lst_set (by omega)]
      exact wpAny_first_aux n m hsz hback hready I hstep hfin c (L.set i true) a' w' (by rw [List.length_set]; exact hl) (by have := count_set L i (by omega) hun2; omega) hcl2 hI'
/-- The law, from the start. -/
theorem wpAny_first {P : Program} {md : Region.Mode} {ops : Array Oper} {Q : Exit → Act → World → Prop} (n m : Nat) (hsz : ops.size = n + m) (hback : backB ops = true) (hlate : lateB md ops n = true) (I : List Bool → Act → World → Prop)
    (hstep : ∀ i o, i < n → ops[i]? = some o → ∀ (L : List Bool) (a : Act) (w : World), L.length = n → I L a w → L.getD i true = false → (∀ e ∈ o.after, Region.binds md e = true → L.getD e.on false = true) →
      ∀ K : Act → World → Prop, (∀ a w, I (L.set i true) a w → K a w) → if Region.wanted o (yielded ops a.tmps) = true then Oper.wp P o a w K Q else K (a.put o.dst undef) w)
    (hfin : ∀ a w, I (List.replicate n true) a w → wpAny P md ops Q m (lst (List.replicate n true) m) a w)
    (c : Nat) (L : List Bool) (a : Act) (w : World) (hL : L = List.replicate n false) (hc : c = n) (hI : I L a w) : wpAny P md ops Q (c + m) (lst L m) a w := by
  subst hL
  exact wpAny_first_aux n m hsz hback (late_ready hlate) I hstep hfin c _ a w (by simp) (by simp [hc]) (fun k hk hg => by rw [List.getD, List.getElem?_replicate, if_pos hk] at hg; cases hg) hI
/-- The same, the later ones told to wait by whichever reason. -/
theorem wpAny_first_by {P : Program} {md : Region.Mode} {ops : Array Oper} {Q : Exit → Act → World → Prop} (n m : Nat) (hsz : ops.size = n + m) (hback : backB ops = true) (hready : ∀ (L : List Bool) (i0 i : Nat), L.length = n → closed md ops n L → i0 < n → L.getD i0 true = false → i ∈ Region.ready md ops (lst L m) → i < n) (I : List Bool → Act → World → Prop)
    (hstep : ∀ i o, i < n → ops[i]? = some o → ∀ (L : List Bool) (a : Act) (w : World), L.length = n → I L a w → L.getD i true = false → (∀ e ∈ o.after, Region.binds md e = true → L.getD e.on false = true) →
      ∀ K : Act → World → Prop, (∀ a w, I (L.set i true) a w → K a w) → if Region.wanted o (yielded ops a.tmps) = true then Oper.wp P o a w K Q else K (a.put o.dst undef) w)
    (hfin : ∀ a w, I (List.replicate n true) a w → wpAny P md ops Q m (lst (List.replicate n true) m) a w)
    (c : Nat) (L : List Bool) (a : Act) (w : World) (hL : L = List.replicate n false) (hc : c = n) (hI : I L a w) : wpAny P md ops Q (c + m) (lst L m) a w := by
  subst hL
  exact wpAny_first_aux n m hsz hback hready I hstep hfin c _ a w (by simp) (by simp [hc]) (fun k hk hg => by rw [List.getD, List.getElem?_replicate, if_pos hk] at hg; cases hg) hI
/-- The block that a pointer or a slice leads to. -/
def blkOf : Value → Option Nat
  | .pointer (some a) => some a.block
  | .slice (some a) _ _ => some a.block
  | _ => none
/-- What stands when some of the first n operations are done: each has left its value, of which F tells; the other slots stand as they stood. -/
structure Inv (n : Nat) (a0 : Act) (D : Nat → Nat) (Fr : Nat → Bool) (F : Nat → Value → World → Prop) (C : World → Prop) (L : List Bool) (a : Act) (w : World) : Prop where
  size : a.tmps.size = a0.tmps.size
  defers : a.defers = a0.defers
  base : ∀ d, (∀ k, k < n → D k ≠ d) → a.tmps[d]? = a0.tmps[d]?
  core : C w
  got : ∀ k, k < n → L.getD k false = true → F k (a.tmps.getD (D k) undef) w
  apart : ∀ j k, j < n → k < n → j ≠ k → L.getD j false = true → L.getD k false = true → Fr j = true → Fr k = true → blkOf (a.tmps.getD (D j) undef) ≠ blkOf (a.tmps.getD (D k) undef)
theorem Inv.next {n : Nat} {a0 : Act} {D : Nat → Nat} {Fr : Nat → Bool} {F : Nat → Value → World → Prop} {C : World → Prop} {L : List Bool} {a : Act} {w w' : World} {i : Nat} {v : Value} (h : Inv n a0 D Fr F C L a w) (hi : i < n) (hD : ∀ j k, j < n → k < n → D j = D k → j = k) (hs : D i < a0.tmps.size)
    (hC : C w') (hF : ∀ k u, k < n → k ≠ i → F k u w → F k u w') (hv : F i v w') (hfv : Fr i = true → ∃ b, blkOf v = some b ∧ w.heap.size ≤ b) (hfk : ∀ k u, k < n → Fr k = true → F k u w → ∃ b, blkOf u = some b ∧ b < w.heap.size) : Inv n a0 D Fr F C (L.set i true) (a.put (some (D i)) v) w' := by
  have self : (a.tmps.setIfInBounds (D i) v).getD (D i) undef = v := by
    rw [Array.getD_eq_getD_getElem?, Array.getElem?_setIfInBounds_self_of_lt (by rw [h.size]; exact hs)]
    rfl
  have other : ∀ k, k < n → k ≠ i → (a.tmps.setIfInBounds (D i) v).getD (D k) undef = a.tmps.getD (D k) undef := fun k hk e => by
    rw [Array.getD_eq_getD_getElem?, Array.getElem?_setIfInBounds_ne (fun e2 => e (hD i k hi hk e2).symm), ← Array.getD_eq_getD_getElem?]
  have was : ∀ k, k ≠ i → (L.set i true).getD k false = true → L.getD k false = true := fun k e hg => by
    rw [List.getD, List.getElem?_set_ne (fun e2 => e e2.symm)] at hg
    exact hg
  have fresh : ∀ k, k < n → k ≠ i → L.getD k false = true → Fr i = true → Fr k = true → blkOf v ≠ blkOf (a.tmps.getD (D k) undef) := fun k hk e hg f1 f2 => by
    obtain ⟨b, hb1, hb2⟩ := hfv f1
    obtain ⟨c, hc1, hc2⟩ := hfk k _ hk f2 (h.got k hk hg)
    rw [hb1, hc1]
    intro e3
    have := Option.some.inj e3
    omega
  refine ⟨by simp [Act.put]; exact h.size, h.defers, fun d hd => ?_, hC, fun k hk hg => ?_, fun j k hj hk hjk gj gk fj fk => ?_⟩
  · show (a.tmps.setIfInBounds (D i) v)[d]? = _
    rw [Array.getElem?_setIfInBounds_ne (hd i hi)]
    exact h.base d hd
  · show F k ((a.tmps.setIfInBounds (D i) v).getD (D k) undef) w'
    by_cases e : k = i
    · subst e
      rw [self]
      exact hv
    · rw [other k hk e]
      exact hF k _ hk e (h.got k hk (was k e hg))
  · show blkOf ((a.tmps.setIfInBounds (D i) v).getD (D j) undef) ≠ blkOf ((a.tmps.setIfInBounds (D i) v).getD (D k) undef)
    by_cases ej : j = i
    · subst ej
      rw [self, other k hk (fun e => hjk e.symm)]
      exact fresh k hk (fun e => hjk e.symm) (was k (fun e => hjk e.symm) gk) fj fk
    · by_cases ek : k = i
      · subst ek
        rw [self, other j hj ej]
        exact fun e => fresh j hj ej (was j ej gj) fk fj e.symm
      · rw [other j hj ej, other k hk ek]
        exact h.apart j k hj hk hjk (was j ej gj) (was k ek gk) fj fk
theorem Inv.start (n : Nat) (a0 : Act) (D : Nat → Nat) (Fr : Nat → Bool) (F : Nat → Value → World → Prop) (C : World → Prop) (w : World) (hC : C w) : Inv n a0 D Fr F C (List.replicate n false) a0 w :=
  ⟨rfl, rfl, fun _ _ => rfl, hC, fun k hk hg => (by rw [List.getD, List.getElem?_replicate, if_pos hk] at hg; cases hg), fun j k hj hk _ hg => by rw [List.getD, List.getElem?_replicate, if_pos hj] at hg; cases hg⟩
theorem Inv.eval {n : Nat} {a0 : Act} {D : Nat → Nat} {Fr : Nat → Bool} {F : Nat → Value → World → Prop} {C : World → Prop} {L : List Bool} {a : Act} {w : World} (h : Inv n a0 D Fr F C L a w) {d : Nat} (hd : ∀ k, k < n → D k ≠ d) : a.eval (.tmp d) = a0.eval (.tmp d) := by
  show a.tmps.getD d undef = a0.tmps.getD d undef
  rw [Array.getD_eq_getD_getElem?, Array.getD_eq_getD_getElem?, h.base d hd]
def putAll (D : Nat → Nat) (u : Nat → Value) (n : Nat) (t : Array Value) : Array Value := (List.range n).foldl (fun t k => t.setIfInBounds (D k) (u k)) t
theorem putAll_succ (D : Nat → Nat) (u : Nat → Value) (n : Nat) (t : Array Value) : putAll D u (n + 1) t = (putAll D u n t).setIfInBounds (D n) (u n) := by
  unfold putAll
  rw [List.range_succ, List.foldl_append]
  rfl
theorem putAll_size (D : Nat → Nat) (u : Nat → Value) (n : Nat) (t : Array Value) : (putAll D u n t).size = t.size := by
  induction n with
  | zero => rfl
  | succ n ih => rw [putAll_succ, Array.size_setIfInBounds, ih]
theorem putAll_get (D : Nat → Nat) (u : Nat → Value) (t s : Array Value) (hs : s.size = t.size) (n : Nat) (hu : ∀ k, k < n → D k < t.size → s[D k]? = some (u k)) (hb : ∀ d, (∀ k, k < n → D k ≠ d) → s[d]? = t[d]?) : s = putAll D u n t := by
  apply Array.ext_getElem?
  intro d
  have key : ∀ m, m ≤ n → (putAll D u m t)[d]? = if ∃ k, k < m ∧ D k = d then s[d]? else t[d]? := by
    intro m
    induction m with
    | zero => intro _; rw [if_neg (by rintro ⟨k, hk, _⟩; omega)]; rfl
    | succ m ih =>
      intro hm
      rw [putAll_succ]
      by_cases e : D m = d
      · rw [if_pos ⟨m, by omega, e⟩]
        subst e
        by_cases hlt : D m < t.size
        · rw [Array.getElem?_setIfInBounds_self_of_lt (by rw [putAll_size]; exact hlt), hu m (by omega) hlt]
        · rw [Array.getElem?_eq_none (by rw [Array.size_setIfInBounds, putAll_size]; omega), Array.getElem?_eq_none (by omega)]
      · rw [Array.getElem?_setIfInBounds_ne e, ih (by omega)]
        by_cases e2 : ∃ k, k < m ∧ D k = d
        · obtain ⟨k, hk, hkd⟩ := e2
          rw [if_pos ⟨k, hk, hkd⟩, if_pos ⟨k, by omega, hkd⟩]
        · rw [if_neg e2, if_neg]
          rintro ⟨k, hk, hkd⟩
          by_cases e3 : k = m
          · subst e3; exact e hkd
          · exact e2 ⟨k, by omega, hkd⟩
  rw [key n (Nat.le_refl n)]
  by_cases e : ∃ k, k < n ∧ D k = d
  · rw [if_pos e]
  · rw [if_neg e]
    exact hb d fun k hk hkd => e ⟨k, hk, hkd⟩
/-- The frame, written out. -/
theorem Inv.form {n : Nat} {a0 : Act} {D : Nat → Nat} {Fr : Nat → Bool} {F : Nat → Value → World → Prop} {C : World → Prop} {L : List Bool} {a : Act} {w : World} (h : Inv n a0 D Fr F C L a w) : ∃ u : Nat → Value, a = ⟨putAll D u n a0.tmps, a0.defers⟩ ∧ (∀ k, k < n → L.getD k false = true → F k (u k) w) ∧ ∀ j k, j < n → k < n → j ≠ k → L.getD j false = true → L.getD k false = true → Fr j = true → Fr k = true → blkOf (u j) ≠ blkOf (u k) := by
  refine ⟨fun k => a.tmps.getD (D k) undef, ?_, h.got, h.apart⟩
  have h1 : a.tmps = putAll D (fun k => a.tmps.getD (D k) undef) n a0.tmps := by
    refine putAll_get D _ a0.tmps a.tmps h.size n (fun k hk hlt => ?_) h.base
    rw [Array.getD_eq_getD_getElem?, Array.getElem?_eq_getElem (by rw [h.size]; exact hlt)]
    rfl
  cases a
  simp only at h1
  rw [← h1, ← h.defers]
/-! Steps, over whatever frame. -/
section
variable {P : Program} {ops : Array Oper} {o : Oper} {a : Act} {w : World} {K : Act → World → Prop} {Q : Exit → Act → World → Prop} {E : Prop}
theorem step_wanted (hgd : o.guard = none) (h : Oper.wp P o a w K Q) : if Region.wanted o (yielded ops a.tmps) = true then Oper.wp P o a w K Q else E := by
  have hw : Region.wanted o (yielded ops a.tmps) = true := by simp [Region.wanted, hgd]
  rw [if_pos hw]
  exact h
theorem step_move (hgd : o.guard = none) (x : Operand) (ho : o.op = .move x) (h : K (a.put o.dst (a.eval x)) w) : if Region.wanted o (yielded ops a.tmps) = true then Oper.wp P o a w K Q else E := by
  refine step_wanted hgd ?_
  unfold Oper.wp execOp
  simp only [ho, Sem.run_pure]
  exact h
theorem step_build1 (hgd : o.guard = none) (t e : TypeId) (x : Operand) (ho : o.op = .buildSlice t 1 #[(0, x)]) (ie : TypeInfo) (z v : Value) (ht : P.underlying t = some (.slice e)) (hi : P.info? e = some ie) (hz : ie.zero = some z) (hs : ie.size = 1) (_hzc : z.cells.size = 1) (hx : a.eval x = v) (hv : v.cells = #[v])
    (h : K (a.put o.dst (.slice (some ⟨w.heap.size, 0, none⟩) 1 1)) (w.alloc (.cells #[v] e))) : if Region.wanted o (yielded ops a.tmps) = true then Oper.wp P o a w K Q else E := by
  refine step_wanted hgd ?_
  have hrun : (Instr.buildSlice t 1 #[(0, v)]).run P w = .ok (.slice (some ⟨w.heap.size, 0, none⟩) 1 1) (w.alloc (.cells #[v] e)) := by
    simp [Instr.buildSlice, Sem.run_bind, run_underlying ht, sizeOf, typeInfo, hi, hs, zeroValue, hz, Instr.fill, hv, newRow, Result.andThen, show Array.range 1 = #[0] from rfl]
  unfold Oper.wp execOp
  simp [ho, hx, hrun, Result.andThen]
  exact h
theorem step_call (hgd : o.guard = none) (f : FuncId) (args : Array Operand) (argTypes : Array TypeId) (ho : o.op = .call { callee := .value (.func f), args := args, argTypes := argTypes }) (eg : ∀ args w, (callFunc f args).run P w = .ok (.enter f args) w) (vals : Array Value) (hv : args.map a.eval = vals)
    (h : Calls P f vals w fun
      | .returned v, w'' => K (a.put o.dst v) w''
      | .panicked c, w'' => Q (.panic c) a w''
      | .outgrown, _ => LetsOut Q) : if Region.wanted o (yielded ops a.tmps) = true then Oper.wp P o a w K Q else E := by
  refine step_wanted hgd ?_
  unfold Oper.wp execOp
  simp only [ho, resolve, Act.eval, Sem.run_bind]
  simp [go_sem, invoke, eg, hv]
  exact h
end
end Go.Proofs.Ytckgpocfcanokaa
