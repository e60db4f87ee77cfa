/- Part 20 of the words that the laws share: QTail. No condition of its own: each theorem says its own. -/
import Derived.Test.YtcicdbhffkpldaaPart19
import Derived.StillTail
import Derived.Deep.QuietTactic
import Derived.BigQuiet

/- A drawn region whose first operations only read, or call what only draws, and whose others come in one order behind all of them: one walk of the text's order. No condition of its own. -/
namespace Go.Proofs.Ytcicdbhffkpldaa
open Go.RowKit

/-- Each guard is told by one of the first n. -/
def guardsB (n : Nat) (l : List Oper) : Bool := (l.take n).all fun o => match o.guard with | none => true | some (j, _) => decide (j < n)
theorem wanted_take {n : Nat} {l : List Oper} {o : Oper} (h : guardsB n l = true) (ho : o ∈ l.take n) (tmps : Array Value) : Region.wanted o (yielded (l.take n).toArray tmps) = Region.wanted o (yielded l.toArray tmps) := by
  have h2 := (List.all_eq_true.1 h) o ho
  unfold Region.wanted
  cases hg : o.guard with
  | none => rfl
  | some p =>
    obtain ⟨j, b⟩ := p
    rw [hg] at h2
    have hj : j < n := of_decide_eq_true h2
    have e : yielded (l.take n).toArray tmps j = yielded l.toArray tmps j := by
      unfold yielded
      rw [List.getElem?_toArray, List.getElem?_toArray, List.getElem?_take, if_pos hj]
    show (yielded (l.take n).toArray tmps j == some b) = (yielded l.toArray tmps j == some b)
    rw [e]
/-- Each of the first n is waited for by a later one up to n; those behind come one after the other. -/
theorem chain_ready {md : Region.Mode} {ops : Array Oper} {n m : Nat} (hsz : ops.size = n + m) (hs : Region.sinkB md ops n = true) (hc : Region.chainB md ops n = true) (L : List Bool) (i0 i : Nat) (hl : L.length = n) (hcl : closed md ops n L) (hi0 : i0 < n) (hi2 : L.getD i0 true = false) (hi : i ∈ Region.ready md ops (lst L m)) : i < n := by
  rcases Nat.lt_or_ge i n with h | h
  · exact h
  · exfalso
    have hm : n < ops.size := by
      obtain ⟨o, ho, his, _, _⟩ := ready_mem hi
      omega
    have inv : HeadInv md ops n (lst L m) := by
      refine ⟨by rw [lst_size, hl, hsz], fun j oj hj hg e he hb => ?_, fun t ht ht2 => ?_⟩
      · have hjn : j < n := by
          rcases Nat.lt_or_ge j n with h2 | h2
          · exact h2
          · exfalso
            have : (lst L m).getD j false = false := by
              rw [Array.getD_eq_getD_getElem?]
              unfold lst
              rw [List.getElem?_toArray, List.getElem?_append_right (by omega), List.getElem?_replicate]
              split <;> rfl
            rw [this] at hg
            cases hg
        rw [lst_get (by omega)] at hg
        have h3 := hcl j hjn hg oj hj e he hb
        have h4 : e.on < L.length := by
          rcases Nat.lt_or_ge e.on L.length with h5 | h5
          · exact h5
          · rw [List.getD, List.getElem?_eq_none h5] at h3; cases h3
        rw [lst_get h4]
        exact h3
      · rw [Array.getD_eq_getD_getElem?]
        unfold lst
        rw [List.getElem?_toArray, List.getElem?_append_right (by omega), List.getElem?_replicate, if_pos (by omega)]
        rfl
    exact tail_waits hs hc hm inv _ i0 rfl hi0 (by rw [lst_get (by omega)]; exact hi2) i h hi
theorem wp_quiet_tail {P : Program} {id : Nat} {Q : Exit → Act → World → Prop} {a : Act} {w : World} {l : List Oper} (n : Nat) (hm : P.follows .mixedOrders = true)
    (hlen : decide (n ≤ l.length) = true) (hB : Region.lexB .any (l.take n).toArray = true) (hback : backB l.toArray = true) (hs : Region.sinkB .any l.toArray n = true) (hc : Region.chainB .any l.toArray n = true) (hng : guardsB n l = true)
    (hseq : Region.seqB .any l.toArray (l.length - n) n (lst (List.replicate n true) (l.length - n)) = true)
    (h : wpQuiet P (l.take n).toArray (fun w' => ∃ k, w' = w.drewN k) (fun a' => ∀ w', (∃ k, w' = w.drewN k) → wpList P l.toArray Q (l.drop n) a' w') (l.take n) a) : (Code.region id l.toArray true).wp P Q a w := by
  have hn := of_decide_eq_true hlen
  have htl : (l.take n).length = n := by rw [List.length_take]; omega
  have hdl : (l.drop n).length = l.length - n := List.length_drop
  simp only [Region.lexB, Bool.and_eq_true] at hB
  obtain ⟨hsel, hlex⟩ := hB
  refine wp_region_any hm ?_
  have e1 : Array.replicate l.toArray.size false = lst (List.replicate n false) (l.length - n) := by
    unfold lst
    rw [← List.toArray_replicate, List.replicate_append_replicate]
    congr 2
    simp
    omega
  have e2 : l.toArray.size = n + (l.length - n) := by simp; omega
  rw [e1, e2]
  refine wpAny_first_by n (l.length - n) (by simp; omega) hback (chain_ready (by simp; omega) hs hc) (fun L a' w' => (∃ k, w' = w.drewN k) ∧ wpAnyQ P .any (l.take n).toArray (fun w' => ∃ k, w' = w.drewN k) (fun a' => ∀ w', (∃ k, w' = w.drewN k) → wpList P l.toArray Q (l.drop n) a' w') (L.count false) L.toArray a') ?hstep ?hfin n _ a _ rfl rfl ⟨⟨1, rfl⟩, ?hstart⟩
  case hstart =>
    have h2 := wpAnyQ_lex (md := .any) hsel (l.take n) 0 (Array.replicate (l.take n).toArray.size false) a (by simp) (by simpa using hlex) h
    rw [htl] at h2
    have e3 : (List.replicate n false).toArray = Array.replicate (l.take n).toArray.size false := by
      rw [← List.toArray_replicate]
      congr 2
      simp
      omega
    rw [e3, List.count_replicate_self]
    exact h2
  case hstep =>
    intro i o hi ho L a' w' hl hI hun hdep K hK
    obtain ⟨hC, hQ⟩ := hI
    have ho2 : (l.take n).toArray[i]? = some o := by
      rw [List.getElem?_toArray, List.getElem?_take, if_pos hi]
      simpa using ho
    have hmem : o ∈ l.take n := List.mem_of_getElem? (by simpa using ho2)
    have hr : i ∈ Region.ready .any (l.take n).toArray L.toArray := by
      refine _root_.Go.mem_ready.2 ⟨?_, o, ho2, fun e he hb => ?_⟩
      · simpa [List.getD] using hun
      · have h3 := hdep e he hb
        simpa [List.getD] using h3
    have hcs := count_set L i (by omega) hun
    rw [← hcs] at hQ
    have h4 := hQ.2 i hr
    rw [List.setIfInBounds_toArray] at h4
    unfold qOp at h4
    rw [ho2] at h4
    have hw := wanted_take hng hmem a'.tmps
    simp only [hw] at h4
    by_cases hb : Region.wanted o (yielded l.toArray a'.tmps) = true
    · rw [if_pos hb] at h4 ⊢
      exact Oper.wp_of_quiet hC (fun a'' w'' hC' hK' => hK a'' w'' ⟨hC', hK'⟩) h4
    · rw [if_neg hb] at h4 ⊢
      exact hK _ _ ⟨hC, h4⟩
  case hfin =>
    intro a' w' hI
    obtain ⟨hC, hQ⟩ := hI
    have e4 : (List.replicate n true).count false = 0 := by rw [List.count_replicate]; rfl
    rw [e4] at hQ
    have h5 := wpAny_of_seq (md := .any) (Q' := Q) (l.drop n) n (lst (List.replicate n true) (l.length - n)) a' w' (fun j => by simp [List.getElem?_drop]) (by rw [hdl]; exact hseq) (hQ.2 w' hC)
    rw [hdl] at h5
    exact h5
end Go.Proofs.Ytcicdbhffkpldaa
