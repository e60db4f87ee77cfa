/- A text under way, reckoned; a row of questions of the call's own as it is read. No condition of its own. -/
import Derived.Test.YtckgpocfcanokaaLbRow
import Derived.Test.YtckgpocfcanokaaSrowB
namespace Go.Proofs.Ytckgpocfcanokaa
open Go.RowKit

def pieceB (i : Nat) (q : Qu) : List UInt8 := (if i = 0 then [123] else [44]) ++ (q.n.toList ++ (sgB q.g ++ q.v.toList))
def partB : Nat → List Qu → List UInt8
  | _, [] => []
  | i, q :: r => pieceB i q ++ partB (i + 1) r
theorem partB_snoc : ∀ (i : Nat) (l : List Qu) (q : Qu), partB i (l ++ [q]) = partB i l ++ pieceB (i + l.length) q
  | i, [], q => by simp [partB]
  | i, p :: l, q => by
    rw [List.cons_append, partB, partB_snoc (i + 1) l q, partB, List.append_assoc, List.length_cons]
    congr 3
    omega
theorem body_part : ∀ (i : Nat) (q : Qu) (r : List Qu), (if i = 0 then 123 else 44 : UInt8) :: bodyB (q :: r) = partB i (q :: r) ++ [125]
  | i, q, [] => by
    simp only [bodyB, partB, pieceB, List.isEmpty_nil, if_true, List.append_nil]
    split <;> simp
  | i, q, p :: r => by
    have h := body_part (i + 1) p r
    rw [if_neg (by omega)] at h
    rw [bodyB, partB, List.append_assoc, ← h, pieceB]
    simp only [List.isEmpty_cons, Bool.false_eq_true, if_false, List.cons_append, List.nil_append]
    split <;> simp
theorem text_part (n : ByteArray) (l : List Qu) : textB ⟨n, l⟩ = n.toList ++ (partB 0 l ++ (if l.isEmpty then [] else [125])) := by
  unfold textB
  rcases l with _ | ⟨q, r⟩
  · rfl
  · have h := body_part 0 q r
    rw [if_pos rfl] at h
    simp only [List.isEmpty_cons, Bool.false_eq_true, if_false]
    rw [h]
theorem sgB_len (g : Int) : (sgB g).length ≤ 2 := by
  unfold sgB
  split
  · decide
  · split <;> decide
theorem partB_len : ∀ (i : Nat) (l : List Qu), (∀ q ∈ l, q.n.size ≤ 24 ∧ q.v.size ≤ 24) → (partB i l).length ≤ 51 * l.length
  | _, [], _ => Nat.le_refl _
  | i, q :: r, h => by
    have h1 := h q (List.mem_cons_self ..)
    have h2 := partB_len (i + 1) r fun p hp => h p (List.mem_cons_of_mem _ hp)
    have h3 := sgB_len q.g
    have h4 : ((if i = 0 then [123] else [44] : List UInt8)).length = 1 := by split <;> rfl
    have h5 : q.n.toList.length = q.n.size := by rw [ByteArray.toList_eq, Array.length_toList]; rfl
    have h6 : q.v.toList.length = q.v.size := by rw [ByteArray.toList_eq, Array.length_toList]; rfl
    simp only [partB, pieceB, List.length_append, List.length_cons]
    omega
theorem bl_append (a b : ByteArray) : (a ++ b).toList = a.toList ++ b.toList := by
  rw [ByteArray.toList_eq, ByteArray.toList_eq, ByteArray.toList_eq, ByteArray.data_append, Array.toList_append]
theorem ownR_rsE {k : Nat} {w : World} {base : Nat} {e : TypeId} {u : Value} {R : List (List Value)} (h : OwnR k w base e u R) (hl : R.length ≤ maxLen) : RsE k w u R := by
  have hn : ∀ n c, u = .slice none n c → c = 0 := fun n c e => by
    rcases h.2.2 with ⟨h0, _⟩ | ⟨g, cap, cur, hv, _⟩
    · rw [h0] at e
      injection e with _ _ e
      exact e.symm
    · rw [hv] at e
      injection e with e
      cases e
  obtain ⟨A, c, rfl, hc⟩ := h.form
  refine ⟨⟨A, c, rfl, hl, fun i hi => ?_⟩, hn⟩
  obtain ⟨g, rfl, _, hg⟩ := hc.2.2 (by omega)
  refine ⟨g, 0, rfl, hg, ?_⟩
  have h1 := h.range hi
  rw [Nat.zero_add]
  rw [List.getD, List.getElem?_eq_getElem hi] at h1
  exact h1
end Go.Proofs.Ytckgpocfcanokaa
