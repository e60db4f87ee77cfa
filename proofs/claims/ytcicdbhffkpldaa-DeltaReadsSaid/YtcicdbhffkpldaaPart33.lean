/- Part 33 of the words that the laws share: QTailC. No condition of its own: each theorem says its own. -/
import Derived.Test.YtcicdbhffkpldaaPart20
import Derived.Shelf.SlSortCmp.QuietGrown

/- A drawn region whose first operations only read, or call what only draws and makes new blocks, and whose others come in one order behind all of them. No condition of its own. -/
namespace Go.Proofs.Ytcicdbhffkpldaa
open Go.RowKit Go.Sort

theorem wp_quiet_tailC {P : Program} {C : World → Prop} {id : Nat} {Q : Exit → Act → World → Prop} {a : Act} {w : World} {l : List Oper} (n : Nat) (hm : P.follows .mixedOrders = true)
    (hlen : decide (n ≤ l.length) = true) (hB : Region.lexB .any (l.take n).toArray = true) (hback : backB l.toArray = true) (hs : Region.sinkB .any l.toArray n = true) (hc : Region.chainB .any l.toArray n = true) (hng : guardsB n l = true)
    (hC0 : C (w.drewN 1)) (hseq : Region.seqB .any l.toArray (l.length - n) n (lst (List.replicate n true) (l.length - n)) = true)
    (h : wpQuiet P (l.take n).toArray C (fun a' => ∀ w', C w' → wpList P l.toArray Q (l.drop n) a' w') (l.take n) a) : (Code.region id l.toArray true).wp P Q a w := by
  have hn := of_decide_eq_true hlen
  have htl : (l.take n).length = n := by rw [List.length_take]; omega
  have hdl : (l.drop n).length = l.length - n := List.length_drop
  simp only [Region.lexB, Bool.and_eq_true] at hB
  obtain ⟨hsel, hlex⟩ := hB
  refine wp_region_any hm ?_
  have e1 : Array.replicate l.toArray.size false = lst (List.replicate n false) (l.length - n) := by
    unfold lst
    rw [← List.toArray_replicate, List.replicate_append_replicate]
    congr 2
    simp
    omega
  have e2 : l.toArray.size = n + (l.length - n) := by simp; omega
  rw [e1, e2]
  refine wpAny_first_by n (l.length - n) (by simp; omega) hback (chain_ready (by simp; omega) hs hc) (fun L a' w' => C w' ∧ wpAnyQ P .any (l.take n).toArray C (fun a' => ∀ w', C w' → wpList P l.toArray Q (l.drop n) a' w') (L.count false) L.toArray a') ?hstep ?hfin n _ a _ rfl rfl ⟨hC0, ?hstart⟩
  case hstart =>
    have h2 := wpAnyQ_lex (md := .any) hsel (l.take n) 0 (Array.replicate (l.take n).toArray.size false) a (by simp) (by simpa using hlex) h
    rw [htl] at h2
    have e3 : (List.replicate n false).toArray = Array.replicate (l.take n).toArray.size false := by
      rw [← List.toArray_replicate]
      congr 2
      simp
      omega
    rw [e3, List.count_replicate_self]
    exact h2
  case hstep =>
    intro i o hi ho L a' w' hl hI hun hdep K hK
    obtain ⟨hC, hQ⟩ := hI
    have ho2 : (l.take n).toArray[i]? = some o := by
      rw [List.getElem?_toArray, List.getElem?_take, if_pos hi]
      simpa using ho
    have hmem : o ∈ l.take n := List.mem_of_getElem? (by simpa using ho2)
    have hr : i ∈ Region.ready .any (l.take n).toArray L.toArray := by
      refine _root_.Go.mem_ready.2 ⟨?_, o, ho2, fun e he hb => ?_⟩
      · simpa [List.getD] using hun
      · have h3 := hdep e he hb
        simpa [List.getD] using h3
    have hcs := count_set L i (by omega) hun
    rw [← hcs] at hQ
    have h4 := hQ.2 i hr
    rw [List.setIfInBounds_toArray] at h4
    unfold qOp at h4
    rw [ho2] at h4
    have hw := wanted_take hng hmem a'.tmps
    simp only [hw] at h4
    by_cases hb : Region.wanted o (yielded l.toArray a'.tmps) = true
    · rw [if_pos hb] at h4 ⊢
      exact Oper.wp_of_quiet hC (fun a'' w'' hC' hK' => hK a'' w'' ⟨hC', hK'⟩) h4
    · rw [if_neg hb] at h4 ⊢
      exact hK _ _ ⟨hC, h4⟩
  case hfin =>
    intro a' w' hI
    obtain ⟨hC, hQ⟩ := hI
    have e4 : (List.replicate n true).count false = 0 := by rw [List.count_replicate]; rfl
    rw [e4] at hQ
    have h5 := wpAny_of_seq (md := .any) (Q' := Q) (l.drop n) n (lst (List.replicate n true) (l.length - n)) a' w' (fun j => by simp [List.getElem?_drop]) (by rw [hdl]; exact hseq) (hQ.2 w' hC)
    rw [hdl] at h5
    exact h5
/-- The class: some draws, some new blocks. -/
def GrewBy (w w' : World) : Prop := ∃ p : GrownBy, w' = grow (w.drewN p.n) p.os
theorem grewBy_one (w : World) : ∃ p : GrownBy, w.drewN 1 = grow (w.drewN p.n) p.os := ⟨⟨1, #[]⟩, by rw [grow_empty]⟩
end Go.Proofs.Ytcicdbhffkpldaa
