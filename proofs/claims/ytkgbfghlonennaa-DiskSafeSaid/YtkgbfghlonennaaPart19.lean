/- Part 19 of the words that the laws share: DsP, DsA, DsS. No condition of its own: each theorem says its own. -/
import Derived.Test.YtkgbfghlonennaaPart1
import Derived.Test.YtkgbfghlonennaaPart17
import Derived.Test.YtkgbfghlonennaaPart18
import Derived.Test.YtkgbfghlonennaaPart4
import Derived.Test.YtkgbfghlonennaaPart15
import Derived.Test.YtkgbfghlonennaaPart7
import Derived.OwnWalk

/- What the three maps of a disk hold, reckoned: the safe sectors, the written ones, the torn ones; what writing, syncing, booting make of them. No program in sight. Condition: a sector that isn't safe isn't torn. -/
namespace Go.Proofs.Ytkgbfghlonennaa
open Go.RowKit

def unitV : Value := .agg #[]
/-- Was it torn when it was safe; its bytes when it was safe. -/
def stP (p : Pl) : Bool := if p.opn then p.old else p.torn
def sbP (p : Pl) : List UInt8 := if p.opn then p.was else p.now
def safeB (L : List Pl) (k : Int) : List UInt8 := (getP L k).elim z128 fun p => if stP p then z128 else sbP p
def wrF (L : List Pl) (k : Int) : Option Value := (getP L k).bind fun p => if p.opn then some (arrV p.now) else none
def toF (L : List Pl) (k : Int) : Option Value := (getP L k).bind fun p => if stP p then some unitV else none
/-- A sector that isn't safe isn't torn. -/
def OpnOk (L : List Pl) : Prop := ∀ k p, getP L k = some p → p.opn = true → p.torn = false
theorem stP_put (p : Pl) (bs : List UInt8) : stP (putP p bs) = stP p := by
  unfold stP putP
  simp
theorem sbP_put (p : Pl) (bs : List UInt8) : sbP (putP p bs) = sbP p := by
  unfold sbP putP
  simp
theorem safeB_write (L : List Pl) (k : Nat) (bs : List UInt8) (k' : Int) : safeB (writeL L k bs) k' = safeB L k' := by
  unfold safeB
  rw [getP_writeL]
  by_cases h : k' = k
  · rw [if_pos h, h]
    cases getP L k with
    | none => rfl
    | some p =>
      show (if stP (putP p bs) then z128 else sbP (putP p bs)) = if stP p then z128 else sbP p
      rw [stP_put, sbP_put]
  · rw [if_neg h]
theorem toF_write (L : List Pl) (k : Nat) (bs : List UInt8) : toF (writeL L k bs) = toF L := by
  funext k'
  unfold toF
  rw [getP_writeL]
  by_cases h : k' = k
  · rw [if_pos h, h]
    cases getP L k with
    | none => rfl
    | some p =>
      show (if stP (putP p bs) then some unitV else none) = if stP p then some unitV else none
      rw [stP_put]
  · rw [if_neg h]
theorem wrF_write (L : List Pl) (k : Nat) (bs : List UInt8) : wrF (writeL L k bs) = updF (wrF L) k (some (arrV (pad128 bs))) := by
  funext k'
  unfold wrF updF
  rw [getP_writeL]
  by_cases h : k' = k
  · rw [if_pos h, if_pos h]
    rfl
  · rw [if_neg h, if_neg h]
theorem opn_write {L : List Pl} (h : OpnOk L) (k : Nat) (bs : List UInt8) : OpnOk (writeL L k bs) := fun k' p hp ho => by
  rw [getP_writeL] at hp
  split at hp
  · injection hp with hp
    rw [← hp]
    rfl
  · exact h k' p hp ho
theorem opn_nil : OpnOk [] := fun k p hp => by cases hp
theorem opn_safe (L : List Pl) : OpnOk (L.map safeP) := fun k p hp ho => by
  rw [getP_safe] at hp
  obtain ⟨q, _, rfl⟩ := Option.map_eq_some_iff.1 hp
  cases ho
theorem wrF_safe (L : List Pl) : wrF (L.map safeP) = fun _ => none := by
  funext k
  unfold wrF
  rw [getP_safe]
  cases getP L k <;> rfl
theorem safeB_safe {L : List Pl} (h : OpnOk L) (k : Int) : arrV (safeB (L.map safeP) k) = (wrF L k).getD (arrV (safeB L k)) := by
  have hk := h k
  unfold safeB wrF
  rw [getP_safe]
  cases hg : getP L k with
  | none => rfl
  | some p =>
    have e1 : stP (safeP p) = p.torn := rfl
    have e2 : sbP (safeP p) = p.now := rfl
    show arrV (if stP (safeP p) then z128 else sbP (safeP p)) = (if p.opn then some (arrV p.now) else none : Option Value).getD (arrV (if stP p then z128 else sbP p))
    rw [e1, e2]
    by_cases ho : p.opn = true
    · rw [if_pos ho, hk p hg ho]
      rfl
    · rw [if_neg ho]
      unfold stP sbP
      rw [if_neg ho, if_neg ho]
      rfl
theorem toF_safe {L : List Pl} (h : OpnOk L) (k : Int) : toF (L.map safeP) k = if (wrF L k).isSome then none else toF L k := by
  have hk := h k
  unfold toF wrF
  rw [getP_safe]
  cases hg : getP L k with
  | none => rfl
  | some p =>
    have e1 : stP (safeP p) = p.torn := rfl
    show (if stP (safeP p) then some unitV else none) = if (if p.opn then some (arrV p.now) else none : Option Value).isSome then none else (if stP p then some unitV else none)
    rw [e1]
    by_cases ho : p.opn = true
    · rw [if_pos ho, hk p hg ho]
      rfl
    · rw [if_neg ho]
      unfold stP
      rw [if_neg ho]
      rfl
/-- What is told of a sector: its bytes, and whether it can be read. -/
def sectB (L : List Pl) (k : Int) : List UInt8 := (getP L k).elim z128 fun p => if p.torn then z128 else p.now
def sectW (L : List Pl) (k : Int) : Bool := (getP L k).elim true fun p => !p.torn
theorem sect_open {L : List Pl} (h : OpnOk L) (k : Int) : arrV (sectB L k) = (wrF L k).getD (arrV (safeB L k)) ∧ sectW L k = ((wrF L k).isSome || !(toF L k).isSome) := by
  have hk := h k
  unfold safeB wrF toF sectB sectW
  cases hg : getP L k with
  | none => exact ⟨rfl, rfl⟩
  | some p =>
    show arrV (if p.torn then z128 else p.now) = (if p.opn then some (arrV p.now) else none : Option Value).getD (arrV (if stP p then z128 else sbP p)) ∧ (!p.torn) = ((if p.opn then some (arrV p.now) else none : Option Value).isSome || !(if stP p then some unitV else none : Option Value).isSome)
    by_cases ho : p.opn = true
    · rw [if_pos ho, hk p hg ho]
      exact ⟨rfl, rfl⟩
    · rw [if_neg ho]
      unfold stP sbP
      rw [if_neg ho, if_neg ho]
      cases p.torn <;> exact ⟨rfl, rfl⟩
theorem rawP_sect (S : DS) (k : Nat) : rawP S k = sectB S.L k := by
  rw [rawP_get]
  unfold sectB
  cases getP S.L k <;> rfl
theorem readS_sect (S : DS) (k : Int) : readS S k = if k < 0 ∨ 1024 ≤ k then ([], 1) else if sectW S.L k then (sectB S.L k, 0) else ([], 9) := by
  rw [readS_get]
  unfold sectB sectW
  cases getP S.L k with
  | none => rfl
  | some p =>
    show (if k < 0 ∨ 1024 ≤ k then ([], 1) else if p.torn then ([], 9) else (p.now, 0)) = if k < 0 ∨ 1024 ≤ k then ([], 1) else if (!p.torn) = true then (if p.torn then z128 else p.now, 0) else ([], 9)
    split
    · rfl
    · cases p.torn <;> rfl
theorem safeB_len {S : DS} (h : DOk S) (k : Int) : (safeB S.L k).length = 128 := by
  unfold safeB
  cases hg : getP S.L k with
  | none => rfl
  | some p =>
    have h1 := h.full p (getP_plc hg).1
    show (if stP p then z128 else sbP p : List UInt8).length = 128
    split
    · rfl
    · unfold sbP
      split
      · exact h1.2
      · exact h1.1
theorem sectB_len {S : DS} (h : DOk S) (k : Int) : (sectB S.L k).length = 128 := by
  unfold sectB
  cases hg : getP S.L k with
  | none => rfl
  | some p =>
    have h1 := h.full p (getP_plc hg).1
    show (if p.torn then z128 else p.now : List UInt8).length = 128
    split
    · rfl
    · exact h1.1
theorem wrF_some {L : List Pl} {k : Int} {v : Value} (h : wrF L k = some v) : ∃ p, getP L k = some p ∧ p.opn = true ∧ v = arrV p.now := by
  unfold wrF at h
  cases hg : getP L k with
  | none => rw [hg] at h; cases h
  | some p =>
    rw [hg] at h
    have h : (if p.opn then some (arrV p.now) else none) = some v := h
    split at h
    · rename_i ho
      injection h with h
      exact ⟨p, rfl, ho, h.symm⟩
    · cases h
theorem wrF_low {S : DS} (h : DOk S) {k : Int} {v : Value} (hv : wrF S.L k = some v) : 0 ≤ k ∧ k < 1024 := by
  obtain ⟨p, hp, _⟩ := wrF_some hv
  obtain ⟨h1, h2⟩ := getP_plc hp
  have := h.low p h1
  omega
theorem toF_low {S : DS} (h : DOk S) {k : Int} {v : Value} (hv : toF S.L k = some v) : 0 ≤ k ∧ k < 1024 := by
  unfold toF at hv
  cases hg : getP S.L k with
  | none => rw [hg] at hv; cases hv
  | some p =>
    obtain ⟨h1, h2⟩ := getP_plc hg
    have := h.low p h1
    omega
/-- The places that aren't safe, rising. -/
def openK (L : List Pl) : List Int := (L.filter fun p => p.opn).map fun p => (p.plc : Int)
theorem openK_at : ∀ (L : List Pl), L.Pairwise (fun p q => p.plc < q.plc) → ∀ (i : Nat) (k : Int), (openK L)[i]? = some k ↔ ∃ p, getP L k = some p ∧ p.opn = true ∧ openB L k = i
  | [], _, i, k => by simp [openK, getP_nil]
  | q :: L, h, i, k => by
    rw [List.pairwise_cons] at h
    have ih := openK_at L h.2
    have hz : openB (q :: L) (q.plc : Int) = 0 := by
      unfold openB
      rw [List.length_eq_zero_iff, List.filter_eq_nil_iff]
      intro p hp
      have : q.plc ≤ p.plc := by
        rcases List.mem_cons.1 hp with rfl | hp
        · exact Nat.le_refl _
        · exact Nat.le_of_lt (h.1 p hp)
      simp
      intro _
      omega
    have hgt : ∀ p, getP L k = some p → (q.plc : Int) < k := fun p hp => by
      obtain ⟨h1, h2⟩ := getP_plc hp
      have := h.1 p h1
      omega
    rw [getP_cons]
    by_cases ho : q.opn = true
    · have e : openK (q :: L) = (q.plc : Int) :: openK L := by simp [openK, ho]
      rw [e]
      by_cases hk : (q.plc : Int) = k
      · rw [if_pos hk]
        subst hk
        cases i with
        | zero => simp [ho, hz]
        | succ i =>
          rw [List.getElem?_cons_succ]
          constructor
          · intro h2
            obtain ⟨p, hp, _⟩ := (ih i _).1 h2
            have := hgt p hp
            omega
          · rintro ⟨p, _, _, h3⟩
            rw [hz] at h3
            cases h3
      · rw [if_neg hk]
        have e2 : ∀ p, getP L k = some p → openB (q :: L) k = openB L k + 1 := fun p hp => by
          have h3 := hgt p hp
          simp [openB, ho, h3]
        cases i with
        | zero =>
          constructor
          · intro h2
            rw [List.getElem?_cons_zero] at h2
            injection h2 with h2
            exact absurd h2 hk
          · rintro ⟨p, hp, _, h3⟩
            rw [e2 p hp] at h3
            cases h3
        | succ i =>
          rw [List.getElem?_cons_succ, ih i k]
          constructor
          · rintro ⟨p, hp, h2, h3⟩
            exact ⟨p, hp, h2, by rw [e2 p hp, h3]⟩
          · rintro ⟨p, hp, h2, h3⟩
            rw [e2 p hp] at h3
            exact ⟨p, hp, h2, by omega⟩
    · have e : openK (q :: L) = openK L := by simp [openK, ho]
      have e2 : openB (q :: L) k = openB L k := by simp [openB, ho]
      rw [e, e2]
      by_cases hk : (q.plc : Int) = k
      · rw [if_pos hk]
        subst hk
        constructor
        · intro h2
          obtain ⟨p, hp, _⟩ := (ih i _).1 h2
          have := hgt p hp
          omega
        · rintro ⟨p, hp, h2, _⟩
          injection hp with hp
          rw [hp] at ho
          exact absurd h2 ho
      · rw [if_neg hk]
        exact ih i k
theorem openK_rise {L : List Pl} (h : L.Pairwise (fun p q => p.plc < q.plc)) : (openK L).Pairwise (· < ·) := by
  unfold openK
  rw [List.pairwise_map]
  exact (h.filter _).imp fun h => by omega
theorem openK_mem {L : List Pl} (h : L.Pairwise (fun p q => p.plc < q.plc)) (k : Int) : k ∈ openK L ↔ (wrF L k).isSome = true := by
  rw [List.mem_iff_getElem?]
  constructor
  · rintro ⟨i, hi⟩
    obtain ⟨p, hp, ho, _⟩ := (openK_at L h i k).1 hi
    unfold wrF
    rw [hp]
    show (if p.opn then some (arrV p.now) else none : Option Value).isSome = true
    rw [if_pos ho]
    rfl
  · intro hs
    obtain ⟨v, hv⟩ := Option.isSome_iff_exists.1 hs
    obtain ⟨p, hp, ho, _⟩ := wrF_some hv
    exact ⟨openB L k, (openK_at L h _ k).2 ⟨p, hp, ho, rfl⟩⟩
/-- How far the power's return has come: the first j of the open places have met their fates. -/
def metB (L : List Pl) (fs : List UInt8) (j : Nat) (k : Int) : List UInt8 := if (wrF L k).isSome ∧ openB L k < j then safeB (bootL fs 0 L) k else safeB L k
def metT (L : List Pl) (fs : List UInt8) (j : Nat) (k : Int) : Option Value := if (wrF L k).isSome ∧ openB L k < j then toF (bootL fs 0 L) k else toF L k
theorem metB_zero (L : List Pl) (fs : List UInt8) : metB L fs 0 = safeB L := by
  funext k
  unfold metB
  rw [if_neg (fun h => Nat.not_lt_zero _ h.2)]
theorem metT_zero (L : List Pl) (fs : List UInt8) : metT L fs 0 = toF L := by
  funext k
  unfold metT
  rw [if_neg (fun h => Nat.not_lt_zero _ h.2)]
theorem boot_open {L : List Pl} (hL : L.Pairwise (fun p q => p.plc < q.plc)) (hO : OpnOk L) (fs : List UInt8) {k : Int} {p : Pl} (hp : getP L k = some p) (ho : p.opn = true) :
    safeB (bootL fs 0 L) k = (if fate fs (openB L k) = 1 then p.now else if fate fs (openB L k) = 2 then z128 else safeB L k) ∧ toF (bootL fs 0 L) k = if fate fs (openB L k) = 1 then none else if fate fs (openB L k) = 2 then some unitV else toF L k := by
  have h1 := getP_boot fs L 0 k hL
  rw [hp, Nat.zero_add] at h1
  have h1 : getP (bootL fs 0 L) k = some (if p.opn then bootP p (fate fs (openB L k)) else p) := h1
  rw [if_pos ho] at h1
  have ht := hO k p hp ho
  unfold safeB toF
  rw [h1, hp]
  show (if stP (bootP p (fate fs (openB L k))) then z128 else sbP (bootP p (fate fs (openB L k)))) = _ ∧ (if stP (bootP p (fate fs (openB L k))) then some unitV else none) = _
  show (if stP (bootP p (fate fs (openB L k))) then z128 else sbP (bootP p (fate fs (openB L k)))) = (if fate fs (openB L k) = 1 then p.now else if fate fs (openB L k) = 2 then z128 else (if stP p then z128 else sbP p)) ∧ (if stP (bootP p (fate fs (openB L k))) then some unitV else none) = (if fate fs (openB L k) = 1 then none else if fate fs (openB L k) = 2 then some unitV else (if stP p then some unitV else none))
  have hlt : fate fs (openB L k) < 3 := by
    unfold fate
    split
    · decide
    · exact Nat.mod_lt _ (by decide)
  have e1 : stP p = p.old := by unfold stP; rw [if_pos ho]
  have e2 : sbP p = p.was := by unfold sbP; rw [if_pos ho]
  rw [e1, e2]
  generalize fate fs (openB L k) = f at hlt
  have e3 : stP (bootP p f) = if f = 0 then p.old else if f = 2 then true else p.torn := rfl
  have e4 : sbP (bootP p f) = if f = 0 then p.was else p.now := rfl
  rw [e3, e4, ht]
  obtain rfl | rfl | rfl : f = 0 ∨ f = 1 ∨ f = 2 := by omega
  · exact ⟨rfl, rfl⟩
  · exact ⟨rfl, rfl⟩
  · exact ⟨rfl, rfl⟩
theorem boot_shut {L : List Pl} (hL : L.Pairwise (fun p q => p.plc < q.plc)) (fs : List UInt8) {k : Int} (hw : wrF L k = none) : safeB (bootL fs 0 L) k = safeB L k ∧ toF (bootL fs 0 L) k = toF L k := by
  have h1 := getP_boot fs L 0 k hL
  unfold safeB toF
  rw [h1]
  cases hp : getP L k with
  | none => exact ⟨rfl, rfl⟩
  | some p =>
    have ho : ¬ p.opn = true := fun ho => by
      unfold wrF at hw
      rw [hp] at hw
      have hw : (if p.opn then some (arrV p.now) else none) = none := hw
      rw [if_pos ho] at hw
      cases hw
    show (if stP (if p.opn then _ else p) then z128 else sbP (if p.opn then _ else p)) = (if stP p then z128 else sbP p) ∧ (if stP (if p.opn then _ else p) then some unitV else none) = (if stP p then some unitV else none)
    rw [if_neg ho]
    exact ⟨rfl, rfl⟩
theorem met_all {L : List Pl} (hL : L.Pairwise (fun p q => p.plc < q.plc)) (fs : List UInt8) (k : Int) : metB L fs (openK L).length k = safeB (bootL fs 0 L) k ∧ metT L fs (openK L).length k = toF (bootL fs 0 L) k := by
  unfold metB metT
  cases hw : wrF L k with
  | none =>
    obtain ⟨h1, h2⟩ := boot_shut hL fs hw
    rw [if_neg (fun h => Bool.noConfusion h.1), if_neg (fun h => Bool.noConfusion h.1)]
    exact ⟨h1.symm, h2.symm⟩
  | some v =>
    obtain ⟨p, hp, ho, _⟩ := wrF_some hw
    have h1 := (openK_at L hL _ k).2 ⟨p, hp, ho, rfl⟩
    have h2 := (List.getElem?_eq_some_iff.1 h1).1
    rw [if_pos ⟨rfl, h2⟩, if_pos ⟨rfl, h2⟩]
    exact ⟨rfl, rfl⟩
theorem wrF_boot {L : List Pl} (hL : L.Pairwise (fun p q => p.plc < q.plc)) (fs : List UInt8) : wrF (bootL fs 0 L) = fun _ => none := by
  funext k
  have h1 := getP_boot fs L 0 k hL
  unfold wrF
  rw [h1]
  cases hp : getP L k with
  | none => rfl
  | some p =>
    show (if (if p.opn then bootP p (fate fs (0 + openB L k)) else p).opn then some (arrV _) else none) = none
    by_cases ho : p.opn = true
    · rw [if_pos ho]
      rfl
    · rw [if_neg ho, if_neg ho]
theorem opn_boot {L : List Pl} (hL : L.Pairwise (fun p q => p.plc < q.plc)) (fs : List UInt8) : OpnOk (bootL fs 0 L) := fun k p hp ho => by
  rw [getP_boot fs L 0 k hL] at hp
  obtain ⟨q, _, rfl⟩ := Option.map_eq_some_iff.1 hp
  by_cases h : q.opn = true
  · rw [if_pos h] at ho
    cases ho
  · rw [if_neg h] at ho
    exact absurd ho h
/-- One place more. -/
theorem met_next {L : List Pl} (hL : L.Pairwise (fun p q => p.plc < q.plc)) (fs : List UInt8) {j : Nat} {x : Int} (hx : (openK L)[j]? = some x) (k : Int) :
    metB L fs (j + 1) k = (if k = x then safeB (bootL fs 0 L) k else metB L fs j k) ∧ metT L fs (j + 1) k = (if k = x then toF (bootL fs 0 L) k else metT L fs j k) := by
  obtain ⟨p, hp, ho, hb⟩ := (openK_at L hL j x).1 hx
  unfold metB metT
  by_cases hk : k = x
  · subst hk
    have hw : (wrF L k).isSome = true := (openK_mem hL k).1 (List.mem_iff_getElem?.2 ⟨j, hx⟩)
    have hc : (wrF L k).isSome = true ∧ openB L k < j + 1 := ⟨hw, by omega⟩
    exact ⟨by rw [if_pos hc, if_pos rfl], by rw [if_pos hc, if_pos rfl]⟩
  · rw [if_neg hk, if_neg hk]
    have e : ((wrF L k).isSome = true ∧ openB L k < j + 1) = ((wrF L k).isSome = true ∧ openB L k < j) := by
      apply propext
      constructor
      · rintro ⟨h1, h2⟩
        refine ⟨h1, ?_⟩
        rcases Nat.lt_or_ge (openB L k) j with h3 | h3
        · exact h3
        · obtain ⟨v, hv⟩ := Option.isSome_iff_exists.1 h1
          obtain ⟨q, hq, hoq, _⟩ := wrF_some hv
          have h4 := (openK_at L hL j k).2 ⟨q, hq, hoq, by omega⟩
          rw [hx] at h4
          injection h4 with h4
          exact absurd h4.symm hk
      · rintro ⟨h1, h2⟩
        exact ⟨h1, by omega⟩
    simp only [e, and_self]
theorem met_here {L : List Pl} (hL : L.Pairwise (fun p q => p.plc < q.plc)) (fs : List UInt8) {j : Nat} {x : Int} (hx : (openK L)[j]? = some x) : metB L fs j x = safeB L x ∧ metT L fs j x = toF L x := by
  obtain ⟨p, hp, ho, hb⟩ := (openK_at L hL j x).1 hx
  unfold metB metT
  rw [if_neg (fun h => by omega), if_neg (fun h => by omega)]
  exact ⟨rfl, rfl⟩
end Go.Proofs.Ytkgbfghlonennaa

/- What a disk is whose sectors are three maps; Dead, Ops, what refuses, what counts a change. Conditions: the counts fit. -/
namespace Go.Proofs.Ytkgbfghlonennaa
open Go.RowKit

/-- A map, or none: what it holds. -/
def MapO (w : World) (m : Option Nat) (f : Int → Option Value) : Prop :=
  match m with
  | none => ∀ k, f k = none
  | some b => MapI w b f
theorem MapO.chg {w w' : World} {m : Option Nat} {f : Int → Option Value} {G : Nat → Prop} (h : MapO w m f) (hc : Chg G w w') (hG : ∀ b, m = some b → ¬ G b) : MapO w' m f := by
  cases m with
  | none => exact h
  | some b => exact MapI.chg h hc (hG b rfl)
theorem MapO.lt {w : World} {m : Option Nat} {f : Int → Option Value} (h : MapO w m f) : ∀ b, m = some b → b < w.heap.size := fun b hb => by
  subst hb
  exact MapI.lt h
def dkV (a b c : Option Nat) (S : DS) : List Value := [.map a, .map b, .map c, .int .i64 (S.fuse : Int), .int .i64 (S.ops : Int), .bool S.dead]
def DkF (X : Nat) (a b c : Option Nat) (k : Nat) : Prop := k = X ∨ a = some k ∨ b = some k ∨ c = some k
structure Dk (w : World) (X : Nat) (a b c : Option Nat) (S : DS) : Prop where
  blk : Blk w X 58 (dkV a b c S)
  safe : ∃ f, MapO w a f ∧ ∀ k, (f k).getD (arrV z128) = arrV (safeB S.L k)
  wr : MapO w b (wrF S.L)
  torn : MapO w c (toF S.L)
  na : ∀ x, a = some x → x ≠ X ∧ b ≠ some x ∧ c ≠ some x
  nb : ∀ x, b = some x → x ≠ X ∧ c ≠ some x
  nc : ∀ x, c = some x → x ≠ X
  same : a.isSome = b.isSome ∧ c.isSome = b.isSome
  ok : DOk S
  opn : OpnOk S.L
  fuse : (S.fuse : Int) ≤ 9223372036854775807
  ops : S.ops ≤ 1000000
theorem Dk.lt {w : World} {X : Nat} {a b c : Option Nat} {S : DS} (h : Dk w X a b c S) : ∀ k, DkF X a b c k → k < w.heap.size := fun k hk => by
  obtain ⟨f, hf, _⟩ := h.safe
  rcases hk with rfl | hk | hk | hk
  · exact h.blk.lt
  · exact hf.lt k hk
  · exact h.wr.lt k hk
  · exact h.torn.lt k hk
theorem Dk.other {w w' : World} {X : Nat} {a b c : Option Nat} {S : DS} {G : Nat → Prop} (h : Dk w X a b c S) (hc : Chg G w w') (hd : ∀ k, DkF X a b c k → ¬ G k) : Dk w' X a b c S := by
  obtain ⟨f, hf, hf2⟩ := h.safe
  exact ⟨hc.blk h.blk (hd X (.inl rfl)), ⟨f, hf.chg hc fun k hk => hd k (.inr (.inl hk)), hf2⟩, h.wr.chg hc fun k hk => hd k (.inr (.inr (.inl hk))), h.torn.chg hc fun k hk => hd k (.inr (.inr (.inr hk))), h.na, h.nb, h.nc, h.same, h.ok, h.opn, h.fuse, h.ops⟩
theorem sole_only {w w' : World} {X : Nat} (h : Sole w w' X) : Chg (fun k => k = X) w w' := ⟨h.below.os, h.below.tape, h.below.output, Nat.le_of_eq h.size.symm, fun k _ hk => h.other k hk⟩
/-- The fuse, the count and the power have changed, no sector. -/
theorem Dk.head {w w' : World} {X : Nat} {a b c : Option Nat} {S S' : DS} (h : Dk w X a b c S) (hs : Sole w w' X) (hL : S'.L = S.L) (hb : Blk w' X 58 (dkV a b c S')) (hf : (S'.fuse : Int) ≤ 9223372036854775807) (ho : S'.ops ≤ 1000000) : Dk w' X a b c S' := by
  have hc := sole_only hs
  obtain ⟨f, hf1, hf2⟩ := h.safe
  refine ⟨hb, ⟨f, hf1.chg hc fun k hk => (h.na k hk).1, ?_⟩, ?_, ?_, h.na, h.nb, h.nc, h.same, dok_of h.ok hL, ?_, hf, ho⟩
  · rw [hL]; exact hf2
  · rw [hL]; exact h.wr.chg hc fun k hk => (h.nb k hk).1
  · rw [hL]; exact h.torn.chg hc fun k hk => h.nc k hk
  · rw [hL]; exact h.opn
theorem zeroArr : (Try.prog.info? 62).bind (·.zero) = some (arrV z128) := by
  kernel_rfl
theorem zeroUnit : (Try.prog.info? 76).bind (·.zero) = some unitV := by
  kernel_rfl
theorem size128 : (Try.prog.info? 62).map (·.size) = some 128 := by
  kernel_rfl
theorem run_lookN {t e : TypeId} (ht : Try.prog.underlying t = some (.map 3 e)) {z : Value} (hz : (Try.prog.info? e).bind (·.zero) = some z) {k : Int} (hk : (Lit.int .i64 k).wf = true) (c : Bool) (w : World) : (Instr.lookup t (.map none) (.int .i64 k) c).run Try.prog w = .ok (if c then .tuple #[z, .bool false] else z) w := by
  have hc := intK.check w true (keyI hk)
  unfold Instr.lookup
  simp only [Sem.run_bind, run_underlying ht, Result.andThen_ok, Sem.run_pure, Array.isEmpty_empty, hc, Instr.findKey, Instr.findNow, run_underlying Try.underlying3, zero_run hz]
section
variable {w : World} {ops : Array Oper} {rest : List Oper} {o : Oper} {a : Act} {Q : Exit → Act → World → Prop}
/-- What is found in a map, or in none. -/
theorem wpList_lookO (hg : o.guard = none) (m x : Operand) (t e : TypeId) (hop : o.op = Op.lookup t m x false) (ht : Try.prog.underlying t = some (.map 3 e)) {z : Value} (hz : (Try.prog.info? e).bind (·.zero) = some z)
    {b : Option Nat} {f : Int → Option Value} (hm : a.eval m = .map b) (h : MapO w b f) {k : Int} (hk : (Lit.int .i64 k).wf = true) (hx : a.eval x = .int .i64 k) (v : Value) (hv : (f k).getD z = v)
    (hK : wpList Try.prog ops Q rest (a.put o.dst v) w) : wpList Try.prog ops Q (o :: rest) a w := by
  cases b with
  | some b => exact wpList_lookI hg m x t e hop ht hz hm h hk hx v hv hK
  | none =>
    rw [h k] at hv
    have hv : z = v := hv
    subst hv
    refine wpList_plain hg fun K' hK' => ?_
    unfold Oper.wp
    simp [execOp, hop, hm, hx, run_lookN ht hz hk false, Result.andThen]
    exact hK' _ _ hK
theorem wpList_lookO_ok (hg : o.guard = none) (m x : Operand) (t e : TypeId) (hop : o.op = Op.lookup t m x true) (ht : Try.prog.underlying t = some (.map 3 e)) {z : Value} (hz : (Try.prog.info? e).bind (·.zero) = some z)
    {b : Option Nat} {f : Int → Option Value} (hm : a.eval m = .map b) (h : MapO w b f) {k : Int} (hk : (Lit.int .i64 k).wf = true) (hx : a.eval x = .int .i64 k) (v : Value) (hv : (f k).getD z = v) (there : Bool) (hth : (f k).isSome = there)
    (hK : wpList Try.prog ops Q rest (a.put o.dst (.tuple #[v, .bool there])) w) : wpList Try.prog ops Q (o :: rest) a w := by
  cases b with
  | some b => exact wpList_lookI_ok hg m x t e hop ht hz hm h hk hx v hv there hth hK
  | none =>
    rw [h k] at hv hth
    have hv : z = v := hv
    have hth : false = there := hth
    subst hv
    subst hth
    refine wpList_plain hg fun K' hK' => ?_
    unfold Oper.wp
    simp [execOp, hop, hm, hx, run_lookN ht hz hk true, Result.andThen]
    exact hK' _ _ hK
/-- A map, or none, cleared. -/
theorem wpList_clearO (hg : o.guard = none) (m : Operand) (t e : TypeId) (hop : o.op = Op.call { callee := Callee.builtin Builtin.clear, args := #[m], argTypes := #[t] }) (ht : Try.prog.underlying t = some (.map 3 e))
    {b : Option Nat} {f : Int → Option Value} (hm : a.eval m = .map b) (h : MapO w b f)
    (hK : ∀ w', MapO w' b (fun _ => none) → Chg (fun j => b = some j) w w' → wpList Try.prog ops Q rest (a.put o.dst (.tuple #[])) w') : wpList Try.prog ops Q (o :: rest) a w := by
  cases b with
  | some b => exact wpList_clearI hg m t e hop ht hm h fun w' h1 h2 => hK w' h1 (h2.mono fun j hj => by rw [hj])
  | none =>
    refine wpList_plain hg fun K' hK' => ?_
    unfold Oper.wp
    simp [execOp, hop, resolve, invoke, builtin, hm, Builtin.clear_, run_underlying ht, Result.andThen]
    exact hK' _ _ (hK w (fun _ => rfl) (Chg.refl _ _))
end
set_option maxRecDepth 100000 in
set_option maxHeartbeats 1000000 in
theorem dkRefuses {w : World} {X : Nat} {d : Bool} (c5 : w.cell? ⟨X, 5, none⟩ = some (.bool d)) : Calls Try.prog 32 #[.pointer (some ⟨X, 0, none⟩)] w fun e w' => e = .returned (.bool d) ∧ w' = w := by
  go_enter Try.func32, Try.ntmps32
  go_wp2_with (fail)
  go_ret
  exact ⟨rfl, rfl⟩
set_option maxRecDepth 100000 in
theorem dkRefuses_nil (w : World) : Calls Try.prog 32 #[.pointer none] w fun e w' => e = .returned (.bool true) ∧ w' = w := by
  go_enter Try.func32, Try.ntmps32
  go_wp2_with (fail)
  go_ret
  exact ⟨rfl, rfl⟩
set_option maxRecDepth 100000 in
set_option maxHeartbeats 1000000 in
theorem dkDead_any {w : World} {X : Nat} {a b c : Option Nat} {S : DS} (h : Dk w X a b c S) : Calls Try.prog 22 #[.pointer (some ⟨X, 0, none⟩)] w fun e w' => e = .returned (.bool S.dead) ∧ w' = w := by
  have c5 : w.cell? ⟨X, 5, none⟩ = some (.bool S.dead) := by rw [h.blk.cell]; rfl
  clear h
  go_enter Try.func22, Try.ntmps22
  go_wp2_with (fail)
  go_ret
  exact ⟨rfl, rfl⟩
set_option maxRecDepth 100000 in
set_option maxHeartbeats 1000000 in
theorem dkOps_any {w : World} {X : Nat} {a b c : Option Nat} {S : DS} (h : Dk w X a b c S) : Calls Try.prog 23 #[.pointer (some ⟨X, 0, none⟩)] w fun e w' => e = .returned (.int .i64 (S.ops : Int)) ∧ w' = w := by
  have c4 : w.cell? ⟨X, 4, none⟩ = some (.int .i64 (S.ops : Int)) := by rw [h.blk.cell]; rfl
  clear h
  go_enter Try.func23, Try.ntmps23
  go_wp2_with (fail)
  go_ret
  exact ⟨rfl, rfl⟩
set_option maxRecDepth 100000 in
set_option maxHeartbeats 2000000 in
theorem change_k {w : World} {X : Nat} {a b c : Option Nat} {S S' : DS} {cd : Int} (hcd : (if (burnS S).2 then 10 else 0 : Int) = cd) (hS' : (burnS S).1 = S') (hb0 : Blk w X 58 (dkV a b c S)) (hfz : (S.fuse : Int) ≤ 9223372036854775807) (ho : S.ops < 1000000) :
    Calls Try.prog 34 #[.pointer (some ⟨X, 0, none⟩)] w fun e w' => e = .returned (.int .i64 cd) ∧ Blk w' X 58 (dkV a b c S') ∧ Sole w w' X := by
  have HCD := Lib.hid hcd
  have HS := Lib.hid hS'
  clear hcd hS'
  obtain ⟨ops, hops⟩ : ∃ ops, ops = S.ops := ⟨_, rfl⟩
  obtain ⟨fuse, hfuse⟩ : ∃ fuse, fuse = S.fuse := ⟨_, rfl⟩
  have hb := hb0
  unfold dkV at hb
  rw [← hops, ← hfuse] at hb
  have oI : (ops : Int) < 1000000 := by omega
  have fI : (fuse : Int) ≤ 9223372036854775807 := by rw [hfuse]; exact hfz
  have e1 : IntKind.i64.wrap ((ops : Int) + 1) = (ops : Int) + 1 := IntWalk.i64_in _ (by omega)
  have c4 : w.cell? ⟨X, 4, none⟩ = some (.int .i64 (ops : Int)) := by rw [hb.cell]; rfl
  have f4 := hb.free 4
  obtain ⟨W1, hW1⟩ : ∃ W : World, W = w.setCell ⟨X, 4, none⟩ (.int .i64 ((ops : Int) + 1)) := ⟨_, rfl⟩
  have B1 : Blk W1 X 58 [.map a, .map b, .map c, .int .i64 (fuse : Int), .int .i64 ((ops : Int) + 1), .bool S.dead] := by rw [hW1]; exact hb.set 4 _
  have L1 : Sole w W1 X := by rw [hW1]; exact Sole.setCell w X 4 _
  have c3 : W1.cell? ⟨X, 3, none⟩ = some (.int .i64 (fuse : Int)) := by rw [B1.cell]; rfl
  have f3 := B1.free 3
  have HOP := Lib.hid hops
  have HFU := Lib.hid hfuse
  rcases Nat.lt_or_ge 0 fuse with hpos | hz
  · have pI : 0 < fuse := hpos
    have n0 : ((fuse : Int) == 0) = false := by rw [beq_eq_false_iff_ne]; omega
    obtain ⟨W2, hW2⟩ : ∃ W : World, W = W1.setCell ⟨X, 3, none⟩ (.int .i64 ((fuse : Int) - 1)) := ⟨_, rfl⟩
    have B2 : Blk W2 X 58 [.map a, .map b, .map c, .int .i64 ((fuse : Int) - 1), .int .i64 ((ops : Int) + 1), .bool S.dead] := by rw [hW2]; exact B1.set 3 _
    have L2 : Hid (Sole w W2 X) := Lib.hid (L1.trans (by rw [hW2]; exact Sole.setCell W1 X 3 _))
    obtain ⟨g, hg⟩ : ∃ g : Int, g = (fuse : Int) - 1 := ⟨_, rfl⟩
    have c3' : W2.cell? ⟨X, 3, none⟩ = some (.int .i64 g) := by rw [hg, B2.cell]; rfl
    have c5' : W2.cell? ⟨X, 5, none⟩ = some (.bool S.dead) := by rw [B2.cell]; rfl
    have f5' := B2.free 5
    by_cases h1 : fuse = 1
    · have hE : Hid (burnS S = ({ S with ops := S.ops + 1, fuse := 0, dead := true }, true)) := Lib.hid (by
        unfold burnS
        rw [if_pos (by omega), if_pos (by omega)])
      have B3 : Hid (Blk (W2.setCell ⟨X, 5, none⟩ (.bool true)) X 58 [.map a, .map b, .map c, .int .i64 0, .int .i64 ((ops : Int) + 1), .bool true]) := Lib.hid (by
        have h2 := B2.set 5 (.bool true)
        rw [show (fuse : Int) - 1 = 0 by omega] at h2
        exact h2)
      have L3 : Hid (Sole w (W2.setCell ⟨X, 5, none⟩ (.bool true)) X) := Lib.hid (L2.out.trans (Sole.setCell W2 X 5 _))
      have N1 : Hid (decide ((0 : Int) < g) = false) := Lib.hid (decide_eq_false (by omega))
      clear hb0 hb ho hops hfuse B1 B2 L1 L2 hpos h1 hg
      go_enter Try.func34, Try.ntmps34
      go_upto_region 2 with (fail)
      rw [← hW1]
      clear hW1 c4 f4 e1
      go_upto_region 5 with (fail)
      rw [← hW2]
      clear hW2 c3 f3
      have n1 := N1.out
      go_wp2_with (fail)
      go_ret
      refine ⟨by rw [← HCD.out, hE.out]; rfl, ?_, L3.out⟩
      rw [← HS.out, hE.out]
      have hb := B3.out
      rw [HOP.out] at hb
      exact hb
    · have hE : Hid (burnS S = ({ S with ops := S.ops + 1, fuse := fuse - 1 }, false)) := Lib.hid (by
        unfold burnS
        rw [if_pos (by omega), if_neg (by omega), ← hfuse])
      have N1 : Hid (decide ((0 : Int) < g) = true) := Lib.hid (decide_eq_true (by omega))
      have HB2 : Hid (Blk W2 X 58 [.map a, .map b, .map c, .int .i64 ((fuse - 1 : Nat) : Int), .int .i64 ((ops : Int) + 1), .bool S.dead]) := Lib.hid (by
        rw [show ((fuse - 1 : Nat) : Int) = (fuse : Int) - 1 by omega]
        exact B2)
      clear hb0 hb ho hops hfuse B1 B2 L1 hpos h1 c5' f5' hg
      go_enter Try.func34, Try.ntmps34
      go_upto_region 2 with (fail)
      rw [← hW1]
      clear hW1 c4 f4 e1
      go_upto_region 5 with (fail)
      rw [← hW2]
      clear hW2 c3 f3
      have n1 := N1.out
      go_wp2_with (fail)
      go_ret
      refine ⟨by rw [← HCD.out, hE.out]; rfl, ?_, L2.out⟩
      rw [← HS.out, hE.out]
      have hb := HB2.out
      rw [HOP.out] at hb
      exact hb
  · have hE : Hid (burnS S = ({ S with ops := S.ops + 1 }, false)) := Lib.hid (by
      unfold burnS
      rw [if_neg (by omega)])
    have z0 : (fuse : Int) = 0 := by omega
    have HB1 := Lib.hid B1
    have HL1 := Lib.hid L1
    clear hb0 hb ho hops hfuse B1 L1 hz
    go_enter Try.func34, Try.ntmps34
    go_upto_region 2 with (fail)
    rw [← hW1]
    clear hW1 c4 f4 e1
    go_wp2_with (fail)
    go_ret
    refine ⟨by rw [← HCD.out, hE.out]; rfl, ?_, HL1.out⟩
    rw [← HS.out, hE.out]
    have hb := HB1.out
    rw [HOP.out, HFU.out] at hb
    exact hb
theorem change_any {w : World} {X : Nat} {a b c : Option Nat} {S : DS} (hb0 : Blk w X 58 (dkV a b c S)) (hfz : (S.fuse : Int) ≤ 9223372036854775807) (ho : S.ops < 1000000) :
    Calls Try.prog 34 #[.pointer (some ⟨X, 0, none⟩)] w fun e w' => e = .returned (.int .i64 (if (burnS S).2 then 10 else 0)) ∧ Blk w' X 58 (dkV a b c (burnS S).1) ∧ Sole w w' X := change_k rfl rfl hb0 hfz ho
end Go.Proofs.Ytkgbfghlonennaa

/- A sector of a disk: its bytes, and whether it can be read; Read. Conditions: the place is one. -/
namespace Go.Proofs.Ytkgbfghlonennaa
open Go.RowKit

/-- A block is made: which, what it holds. -/
theorem wpList_alloc_w {P : Program} {ops : Array Oper} {rest : List Oper} {o : Oper} {a : Act} {w : World} {Q : Exit → Act → World → Prop} (hgd : o.guard = none) (t : TypeId) (ho : o.op = .alloc t) (cs : List Value)
    (hz : (P.info? t).bind (·.zero) = some (.agg cs.toArray)) (N : Nat) (hN : w.heap.size = N)
    (h : ∀ w', Blk w' N t cs → Below N w w' → w'.heap.size = N + 1 → wpList P ops Q rest (a.put o.dst (.pointer (some ⟨N, 0, none⟩))) w') : wpList P ops Q (o :: rest) a w := by
  refine wpList_alloc_v hgd t ho cs.toArray hz N hN ?_
  subst hN
  exact h _ (Blk.made w t cs) ((Below.refl _ _).alloc (Nat.le_refl _) _) (World.size_alloc _ _)
theorem size76 : (Try.prog.info? 76).map (·.size) = some 0 := by
  kernel_rfl
/-- What a disk's maps hold stays while only new blocks are written. -/
structure DkAt (W : World) (X : Nat) (a b c : Option Nat) (S : DS) (f : Int → Option Value) : Prop where
  c0 : W.cell? ⟨X, 0, none⟩ = some (.map a)
  c1 : W.cell? ⟨X, 1, none⟩ = some (.map b)
  c2 : W.cell? ⟨X, 2, none⟩ = some (.map c)
  sf : MapO W a f
  wr : MapO W b (wrF S.L)
  to : MapO W c (toF S.L)
theorem Dk.at {w : World} {X : Nat} {a b c : Option Nat} {S : DS} (h : Dk w X a b c S) : ∃ f, (∀ k, (f k).getD (arrV z128) = arrV (safeB S.L k)) ∧ ∀ W, Below w.heap.size w W → DkAt W X a b c S f := by
  obtain ⟨f, hf, hv⟩ := h.safe
  refine ⟨f, hv, fun W hW => ?_⟩
  have hc := Chg.of_below hW
  have hb := hc.blk h.blk (by have := h.blk.lt; omega)
  refine ⟨by rw [hb.cell]; rfl, by rw [hb.cell]; rfl, by rw [hb.cell]; rfl, hf.chg hc fun k hk => ?_, h.wr.chg hc fun k hk => ?_, h.torn.chg hc fun k hk => ?_⟩
  · have := hf.lt k hk; omega
  · have := h.wr.lt k hk; omega
  · have := h.torn.lt k hk; omega
set_option maxRecDepth 100000 in
set_option maxHeartbeats 2000000 in
theorem sector_open {w : World} {X : Nat} {a b c : Option Nat} {S : DS} (h : Dk w X a b c S) (k : Int) (hk : 0 ≤ k ∧ k < 1024) (bs : List UInt8) (hbs : bs.length = 128) (hv : wrF S.L k = some (arrV bs)) :
    Calls Try.prog 29 #[.pointer (some ⟨X, 0, none⟩), .int .i64 k] w fun e w' => e = .returned (.tuple #[arrV bs, .bool true]) ∧ Below w.heap.size w w' := by
  obtain ⟨f, _, hat⟩ := h.at
  have HA := Lib.hid hat
  obtain ⟨C, hC⟩ : ∃ C, C = w.heap.size := ⟨_, rfl⟩
  have HC := Lib.hid hC
  have HV : Hid ((wrF S.L k).getD (arrV z128) = arrV bs) := Lib.hid (by rw [hv]; rfl)
  have HT : Hid ((wrF S.L k).isSome = true) := Lib.hid (by rw [hv]; rfl)
  have HB : Hid ((bs.map bv).length = 128) := Lib.hid (by rw [List.length_map]; exact hbs)
  have HZ : Hid ((z128.map bv).length = 128) := Lib.hid (by rw [List.length_map]; rfl)
  have HS : Hid ((Try.prog.info? 62).map (·.size) = some (bs.map bv).length) := Lib.hid (by rw [HB.out]; exact size128)
  obtain ⟨zz, hzz⟩ : ∃ zz, zz = z128 := ⟨_, rfl⟩
  rw [← hzz] at HZ HV
  have HZZ := Lib.hid hzz
  clear h hat hC hbs hv hzz
  go_enter Try.func29, Try.ntmps29
  go_wp2_with (first
    | (with_reducible refine here_alloc ?_
       refine wpList_alloc_w rfl 62 rfl (zz.map bv) (by rw [HZZ.out]; exact zeroArr) C HC.out.symm ?_
       intro w1 k1 b1 z1
       have K1 := Lib.hid k1
       have B1 := Lib.hid (HC.out ▸ b1 : Below w.heap.size w w1)
       have Z1 := Lib.hid z1
       have c1 := (HA.out w1 B1.out).c1
       clear k1 b1 z1)
    | (with_reducible refine here_alloc ?_
       refine wpList_alloc_w rfl 62 rfl (zz.map bv) (by rw [HZZ.out]; exact zeroArr) (C + 1) Z1.out ?_
       intro w2 k2 b2 z2
       have K1' := Lib.hid (K1.out.below b2 (by omega))
       have K2 := Lib.hid k2
       have B2 := Lib.hid (B1.out.trans (b2.mono (by have := HC.out; omega)))
       clear k2 b2 z2 c1 K1 B1 Z1)
    | (with_reducible refine here_look ?_
       refine wpList_lookO_ok rfl _ _ 55 62 rfl Try.underlying55 zeroArr rfl (HA.out w1 B1.out).wr (wfI hk) rfl _ (HZZ.out ▸ HV.out) true HT.out ?_)
    | (with_reducible refine here_store ?_
       refine wpList_store_blk rfl 62 _ _ rfl (C + 1) 62 _ K2.out (bs.map bv) rfl rfl (by rw [HB.out, HZ.out]) HS.out (bv_one _) ?_
       intro w3 k3 s3
       have K1 := Lib.hid (s3.blk K1'.out (by omega))
       have K3 := Lib.hid k3
       have B3 := Lib.hid (B2.out.trans (s3.below.mono (by have := HC.out; omega)))
       clear k3 s3 K2 B2 K1')
    | (with_reducible refine here_load ?_
       refine wpList_load_blk rfl 62 _ rfl (C + 1) rfl 62 (bs.map bv) _ K3.out Try.underlying62 rfl HS.out ?_)
    | (with_reducible refine here_store ?_
       refine wpList_store_blk rfl 62 _ _ rfl C 62 _ K1.out (bs.map bv) rfl rfl (by rw [HB.out, HZ.out]) HS.out (bv_one _) ?_
       intro w9 hb9 hs9
       have K9 := Lib.hid hb9
       have B9 := Lib.hid (B3.out.trans (hs9.below.mono (Nat.le_of_eq HC.out.symm)))
       clear hb9 hs9 K1 K3 B3))
  refine bodyPost_ret (v := .tuple #[arrV bs, .bool true]) ?_ rfl ⟨rfl, B9.out⟩
  exact results_blk_tmp (ty := 62) Try.results29 _ w9 C 62 (bs.map bv) _ _ rfl rfl K9.out Try.underlying62 rfl HS.out
end Go.Proofs.Ytkgbfghlonennaa
