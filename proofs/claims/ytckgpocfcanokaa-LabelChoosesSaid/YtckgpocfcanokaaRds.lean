/- Words for pieces of slices of bytes and for slices of such slices. No condition of its own. -/
import Derived.Test.YtckgpocfcanokaaBlk
namespace Go.Proofs.Ytckgpocfcanokaa
open Go.RowKit

/-- A piece of a slice of bytes, as a value and as what it reads as: its address is where the piece begins, but at the capacity's end. -/
theorem Rd.piece {w : World} {v : Value} {xs : List UInt8} (h : Rd w v xs) (l n : Nat) (hn : l + n ≤ xs.length) : ∃ A len c, v = .slice A len c ∧ len = xs.length ∧ len ≤ c ∧ Rd w (.slice (if c = l then A else A.map (·.add (l * 1))) n (c - l)) ((xs.drop l).take n) := by
  rcases h with ⟨A, c, rfl, hc, hA, rfl⟩ | ⟨b, off, c, rfl, h2, h3, h4, h5⟩
  · obtain ⟨rfl, rfl⟩ : l = 0 ∧ n = 0 := by simp at hn; omega
    refine ⟨A, 0, c, rfl, rfl, by omega, .inl ⟨if c = 0 then A else A.map (·.add (0 * 1)), c - 0, rfl, by omega, fun h => ?_, by simp⟩⟩
    by_cases h0 : c = 0
    · omega
    · rw [if_neg h0] at h
      cases A with
      | none => have := hA rfl; omega
      | some a => simp at h
  · refine ⟨some ⟨b, off, none⟩, xs.length, c, rfl, rfl, h3, ?_⟩
    have hl : ((xs.drop l).take n).length = n := by simp; omega
    by_cases hcl : c = l
    · obtain rfl : n = 0 := by omega
      rw [if_pos hcl]
      exact .inl ⟨some ⟨b, off, none⟩, c - l, rfl, by omega, (fun h => by cases h), by simp⟩
    · rw [if_neg hcl]
      refine .inr ⟨b, off + l, c - l, ?_, h2, by omega, by omega, fun i hi => ?_⟩
      · simp only [Option.map_some, Nat.mul_one, Addr.add_mid, hl]
      · rw [hl] at hi
        have h6 := h5 (l + i) (by omega)
        rw [Nat.add_assoc, h6]
        simp
theorem Rd.low {w : World} {v : Value} {xs : List UInt8} (h : Rd w v xs) {P : Program} (t e : TypeId) (i : TypeInfo) (ht : P.underlying t = some (.slice e)) (hi : P.info? e = some i) (h1 : i.size = 1) (k : Nat) (hk : k ≤ xs.length) :
    ∃ A c, (∀ W, (Instr.slice t v (some (.int .i64 (k : Int))) none none).run P W = .ok (.slice A (xs.length - k) c) W) ∧ Rd w (.slice A (xs.length - k) c) (xs.drop k) := by
  have e1 : P.elem t = e := by simp [Program.elem, ht]
  have ht' : P.underlying t = some (.slice (P.elem t)) := by rw [e1]; exact ht
  obtain ⟨A, len, c, rfl, hl, hc, hr⟩ := h.piece k (xs.length - k) (by omega)
  rw [List.take_of_length_le (by simp)] at hr
  refine ⟨_, _, fun W => ?_, hr⟩
  rw [run_slice_l W t A len c ht' .i64 (k : Int) (by omega) (by omega), e1, show (sizeOf e).run P W = .ok 1 W by simp [sizeOf, typeInfo, hi, h1]]
  simp [sliced, hl]
theorem Rd.mid {w : World} {v : Value} {xs : List UInt8} (h : Rd w v xs) {P : Program} (t e : TypeId) (i : TypeInfo) (ht : P.underlying t = some (.slice e)) (hi : P.info? e = some i) (h1 : i.size = 1) (l k : Nat) (hlk : l ≤ k) (hk : k ≤ xs.length) :
    ∃ A c, (∀ W, (Instr.slice t v (some (.int .i64 (l : Int))) (some (.int .i64 (k : Int))) none).run P W = .ok (.slice A (k - l) c) W) ∧ Rd w (.slice A (k - l) c) ((xs.drop l).take (k - l)) := by
  have e1 : P.elem t = e := by simp [Program.elem, ht]
  have ht' : P.underlying t = some (.slice (P.elem t)) := by rw [e1]; exact ht
  obtain ⟨A, len, c, rfl, hl, hc, hr⟩ := h.piece l (k - l) (by omega)
  refine ⟨_, _, fun W => ?_, hr⟩
  rw [run_slice_lh W t A len c ht' .i64 .i64 (l : Int) (k : Int) (by omega) (by omega) (by omega), e1, show (sizeOf e).run P W = .ok 1 W by simp [sizeOf, typeInfo, hi, h1]]
  simp [sliced]
theorem Rd.high {w : World} {v : Value} {xs : List UInt8} (h : Rd w v xs) {P : Program} (t e : TypeId) (i : TypeInfo) (ht : P.underlying t = some (.slice e)) (hi : P.info? e = some i) (h1 : i.size = 1) (k : Nat) (hk : k ≤ xs.length) :
    ∃ A c, (∀ W, (Instr.slice t v none (some (.int .i64 (k : Int))) none).run P W = .ok (.slice A k c) W) ∧ Rd w (.slice A k c) (xs.take k) := by
  have e1 : P.elem t = e := by simp [Program.elem, ht]
  have ht' : P.underlying t = some (.slice (P.elem t)) := by rw [e1]; exact ht
  obtain ⟨A, len, c, rfl, hl, hc, hr⟩ := h.piece 0 k (by omega)
  refine ⟨_, _, fun W => ?_, hr⟩
  rw [run_slice_h W t A len c ht' .i64 (k : Int) (by omega) (by omega), e1, show (sizeOf e).run P W = .ok 1 W by simp [sizeOf, typeInfo, hi, h1]]
  simp [sliced]
/-- The slice v, at the head of a block, is of slices that read as these rows of bytes. -/
def Rs (w : World) (v : Value) (xss : List (List UInt8)) : Prop :=
  ∃ g c, v = .slice (some ⟨g, 0, none⟩) xss.length c ∧ g < w.heap.size ∧ ∀ i (h : i < xss.length), ∃ u, w.cell? ⟨g, i, none⟩ = some u ∧ Rd w u xss[i]
theorem Rs.below {w w' : World} {v : Value} {xss : List (List UInt8)} (h : Rs w v xss) (hb : Below w.heap.size w w') : Rs w' v xss := by
  obtain ⟨g, c, h1, h2, h3⟩ := h
  refine ⟨g, c, h1, Nat.lt_of_lt_of_le h2 hb.size, fun i hi => ?_⟩
  obtain ⟨u, hu, hr⟩ := h3 i hi
  exact ⟨u, (hb.cell (p := ⟨g, i, none⟩) h2).trans hu, hr.below hb⟩
theorem Rd.src {w : World} {A : Option Addr} {n c : Nat} {xs : List UInt8} (h : Rd w (.slice A n c) xs) (h0 : 0 < xs.length) : ∃ ad : Addr, A = some ad ∧ (∀ j, (ad.add j).block < w.heap.size) ∧ ∀ (j : Nat) (u : UInt8), xs[j]? = some u → w.cell? (ad.add j) = some (bv u) := by
  rcases h with ⟨A', c', h1, h2, h3, rfl⟩ | ⟨b, off, c', h1, h2, h3, h4, h5⟩
  · simp at h0
  · injection h1 with e1 e2 e3
    refine ⟨⟨b, off, none⟩, e1, (fun j => by rw [Addr.add_mid]; exact h2), fun j u hu => ?_⟩
    have hj : j < xs.length := by
      rcases Nat.lt_or_ge j xs.length with h | h
      · exact h
      · rw [List.getElem?_eq_none h] at hu; cases hu
    rw [List.getElem?_eq_getElem hj] at hu
    rw [Addr.add_mid, h5 j hj, Option.some.inj hu]
    rfl
theorem map_splice (cs zs : List UInt8) (f : Nat) : splice (cs.map bv) f (zs.map bv) = (splice cs f zs).map bv := by simp [splice]
end Go.Proofs.Ytckgpocfcanokaa
