/- Plain arithmetic: the published fingerprint, block by block. No condition of its own. -/
import Derived.Test.YtpjidfcbckndfaaDoorEnd
namespace Go.Proofs.YtpjidfcbckndfaaDoor
open Go.RowKit

/-- The block of that number. -/
def blockAt (m : List UInt8) (q : Nat) : List UInt8 := (m.drop (64 * q)).take 64
theorem wordsAt_block (m : List UInt8) (p : Nat) : ∀ i, i ≤ 16 → wordsAt ((m.drop p).take 64) 0 i = wordsAt m p i
  | 0, _ => rfl
  | i + 1, h => by
    rw [wordsAt, wordsAt, wordsAt_block m p i (by omega)]
    congr 3
    rw [List.drop_take, List.drop_drop, List.take_take, Nat.zero_add]
    congr 1
    omega
theorem block_eq (s : St) (m : List UInt8) (q : Nat) : block s m (64 * q) = goOn s (blockAt m q) := by
  unfold block goOn spreadN blockAt
  rw [wordsAt_block m _ 16 (Nat.le_refl _)]
theorem blocks_succ (m : List UInt8) (q : Nat) : blocks m (q + 1) = goOn (blocks m q) (blockAt m q) := by rw [blocks, block_eq]
theorem blockAt_prefix (ys zs : List UInt8) (q : Nat) (h : 64 * q + 64 ≤ ys.length) : blockAt (ys ++ zs) q = blockAt ys q := by
  unfold blockAt
  rw [List.drop_append_of_le_length (by omega), List.take_append_of_le_length (by simp; omega)]
theorem blocks_prefix (ys zs : List UInt8) : ∀ q, 64 * q ≤ ys.length → blocks (ys ++ zs) q = blocks ys q
  | 0, _ => rfl
  | q + 1, h => by rw [blocks_succ, blocks_succ, blocks_prefix ys zs q (by omega), blockAt_prefix ys zs q (by omega)]
/-- What goes through the blocks: the words behind the whole ones, and a block whose beginning is the rest. -/
structure Flow (ys : List UInt8) (s : St) (cs : List UInt8) (f : Nat) : Prop where
  words : s = blocks ys (ys.length / 64)
  len : cs.length = 64
  fill : f = ys.length % 64
  rest : cs.take f = ys.drop (64 * (ys.length / 64))
theorem Flow.lt {ys : List UInt8} {s : St} {cs : List UInt8} {f : Nat} (h : Flow ys s cs f) : f < 64 := by rw [h.fill]; omega
theorem Flow.start : Flow [] St.first (List.replicate 64 0) 0 := ⟨rfl, by simp, rfl, rfl⟩
theorem Flow.more {ys : List UInt8} {s : St} {cs : List UInt8} {f : Nat} (h : Flow ys s cs f) (zs : List UInt8) (hz : f + zs.length < 64) : Flow (ys ++ zs) s (splice cs f zs) (f + zs.length) := by
  have hf := h.fill
  have e1 : (ys ++ zs).length / 64 = ys.length / 64 := by rw [List.length_append]; omega
  have hl := h.len
  refine ⟨?_, ?_, ?_, ?_⟩
  · rw [e1, blocks_prefix ys zs _ (by omega)]; exact h.words
  · rw [length_splice _ _ _ (by omega)]; exact hl
  · rw [List.length_append]; omega
  · rw [e1, List.drop_append_of_le_length (by omega), ← h.rest]
    unfold splice
    rw [← List.append_assoc, List.take_append_of_le_length (by simp; omega), List.take_of_length_le (by simp; omega)]
theorem Flow.full {ys : List UInt8} {s : St} {cs : List UInt8} {f : Nat} (h : Flow ys s cs f) (zs : List UInt8) (hz : f + zs.length = 64) : Flow (ys ++ zs) (goOn s (splice cs f zs)) (splice cs f zs) 0 := by
  have hf := h.fill
  have hl := h.len
  have e1 : (ys ++ zs).length / 64 = ys.length / 64 + 1 := by rw [List.length_append]; omega
  have e2 : splice cs f zs = cs.take f ++ zs := by
    unfold splice
    rw [List.drop_of_length_le (by omega), List.append_nil]
  have e3 : blockAt (ys ++ zs) (ys.length / 64) = splice cs f zs := by
    rw [e2, h.rest]
    unfold blockAt
    rw [List.drop_append_of_le_length (by omega), List.take_of_length_le (by simp; omega)]
  refine ⟨?_, ?_, ?_, ?_⟩
  · rw [e1, blocks_succ, blocks_prefix ys zs _ (by omega), e3, h.words]
  · rw [length_splice _ _ _ (by omega)]; exact hl
  · rw [List.length_append]; omega
  · rw [e1, List.drop_of_length_le (by rw [List.length_append]; omega)]; rfl
theorem take_mark {a : List UInt8} {f : Nat} (ha : a.length = f) (hf : f < 56) : (a ++ [128] ++ List.replicate (63 - f) (0 : UInt8)).take 56 = a ++ [128] ++ List.replicate (55 - f) 0 := by
  rw [List.take_append, List.take_of_length_le (by simp; omega), List.take_replicate]
  congr 2
  simp
  omega
theorem Flow.finish {ys : List UInt8} {s : St} {cs : List UInt8} {f : Nat} (h : Flow ys s cs f) : (endS s cs f ys.length).bytes = shaB ys := by
  have hf := h.fill
  have hl := h.len
  have hlt := h.lt
  obtain ⟨q, hq⟩ : ∃ q, q = ys.length / 64 := ⟨_, rfl⟩
  have hw : s = blocks ys q := by rw [hq]; exact h.words
  have hr : cs.take f = ys.drop (64 * q) := by rw [hq]; exact h.rest
  have hrl : (ys.drop (64 * q)).length = f := by rw [List.length_drop]; omega
  have hpl := padB_length ys
  have hp : padB ys = ys ++ ([128] ++ List.replicate (padN ys.length) 0 ++ beB 8 (ys.length * 8)) := by simp [padB]
  unfold shaB
  congr 1
  by_cases h56 : 56 ≤ f
  · have hpn : padN ys.length = 119 - f := by unfold padN; omega
    rw [endS, if_pos h56]
    have e1 : (padB ys).length / 64 = q + 1 + 1 := by rw [hpl, hpn]; omega
    have e2 : blockAt (padB ys) q = markC cs f := by
      unfold blockAt markC
      rw [hp, List.drop_append_of_le_length (by omega), hr, List.take_append, hrl, List.take_of_length_le (by omega), List.append_assoc, List.append_assoc]
      congr 1
      rw [show 64 - f = (63 - f) + 1 by omega, List.singleton_append, List.take_succ_cons, List.take_append, List.take_replicate, List.length_replicate, hpn, show 63 - f - (119 - f) = 0 by omega, show min (63 - f) (119 - f) = 63 - f by omega]
      simp
    have e3 : blockAt (padB ys) (q + 1) = endC (List.replicate 64 0) (ys.length * 8) 8 := by
      unfold blockAt endC
      have e4 : padB ys = (ys ++ [128] ++ List.replicate (63 - f) 0) ++ (List.replicate 56 0 ++ beB 8 (ys.length * 8)) := by
        rw [padB, hpn, show 119 - f = (63 - f) + 56 by omega, ← List.replicate_append_replicate]
        simp
      have e5 : (ys ++ [128] ++ List.replicate (63 - f) (0 : UInt8)).length = 64 * (q + 1) := by simp; omega
      rw [e4, ← e5, List.drop_left, List.take_of_length_le (by simp [beB_length]), List.take_replicate]
      rfl
    rw [e1, blocks_succ, blocks_succ, e2, e3, hp, blocks_prefix _ _ q (by omega), ← hw]
  · have hpn : padN ys.length = 55 - f := by unfold padN; omega
    rw [endS, if_neg h56]
    have e1 : (padB ys).length / 64 = q + 1 := by rw [hpl, hpn]; omega
    have e2 : blockAt (padB ys) q = endC (markC cs f) (ys.length * 8) 8 := by
      unfold blockAt endC markC
      rw [hp, List.drop_append_of_le_length (by omega), hr, take_mark hrl (by omega), hpn, List.take_of_length_le (by simp [beB_length]; omega)]
      simp
    rw [e1, blocks_succ, e2, hp, blocks_prefix _ _ q (by omega), ← hw]
end Go.Proofs.YtpjidfcbckndfaaDoor
