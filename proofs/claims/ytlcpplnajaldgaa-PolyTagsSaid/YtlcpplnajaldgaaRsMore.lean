/- Words for slices of slices of bytes that are written out or appended to. No condition of its own. -/
import Derived.Test.YtlcpplnajaldgaaRds
namespace Go.Proofs.Ytlcpplnajaldgaa
open Go.RowKit

/-- These values read as these rows of bytes, one by one. -/
def RdAll (w : World) : List Value → List (List UInt8) → Prop
  | [], [] => True
  | u :: us, x :: xs => Rd w u x ∧ RdAll w us xs
  | _, _ => False
theorem RdAll.length {w : World} : ∀ {us : List Value} {xss : List (List UInt8)}, RdAll w us xss → us.length = xss.length
  | [], [], _ => rfl
  | _ :: _, _ :: _, h => by simp [RdAll.length h.2]
  | [], _ :: _, h => h.elim
  | _ :: _, [], h => h.elim
theorem RdAll.at {w : World} : ∀ {us : List Value} {xss : List (List UInt8)}, RdAll w us xss → ∀ i (h : i < xss.length), ∃ u, us[i]? = some u ∧ Rd w u xss[i]
  | [], [], _, _, hi => by simp at hi
  | u :: _, _ :: _, h, 0, _ => ⟨u, rfl, h.1⟩
  | _ :: _, _ :: _, h, i + 1, hi => by
    obtain ⟨u, h1, h2⟩ := RdAll.at h.2 i (by simpa using hi)
    exact ⟨u, by simpa using h1, by simpa using h2⟩
  | [], _ :: _, h, _, _ => h.elim
theorem RdAll.below {w w' : World} (hb : Below w.heap.size w w') : ∀ {us : List Value} {xss : List (List UInt8)}, RdAll w us xss → RdAll w' us xss
  | [], [], _ => trivial
  | _ :: _, _ :: _, h => ⟨h.1.below hb, RdAll.below hb h.2⟩
  | [], _ :: _, h => h.elim
  | _ :: _, [], h => h.elim
theorem Rd.oneCell {w : World} {v : Value} {xs : List UInt8} (h : Rd w v xs) : v.oneCell' = true := by
  obtain ⟨A, c, rfl, _⟩ := h.form
  rfl
theorem RdAll.one {w : World} : ∀ {us : List Value} {xss : List (List UInt8)}, RdAll w us xss → ∀ u ∈ us, u.oneCell' = true
  | [], _, _, u, hu => by simp at hu
  | v :: us, _ :: _, h, u, hu => by
    rcases List.mem_cons.1 hu with rfl | h1
    · exact h.1.oneCell
    · exact RdAll.one h.2 u h1
  | _ :: _, [], h, _, _ => h.elim
theorem rdAll_of_cells {w : World} {g : Nat} : ∀ (xss : List (List UInt8)) (o : Nat), (∀ i (h : i < xss.length), ∃ u, w.cell? ⟨g, o + i, none⟩ = some u ∧ Rd w u xss[i]) → ∃ us, (∀ j u, us[j]? = some u → w.cell? ⟨g, o + j, none⟩ = some u) ∧ RdAll w us xss
  | [], _, _ => ⟨[], fun j u h => by simp at h, trivial⟩
  | x :: xs, o, h => by
    obtain ⟨u, h1, h2⟩ := h 0 (by simp)
    obtain ⟨us, h3, h4⟩ := rdAll_of_cells xs (o + 1) (fun i hi => by
      have h5 := h (i + 1) (by simpa using hi)
      rw [show o + (i + 1) = o + 1 + i by omega] at h5
      simpa using h5)
    refine ⟨u :: us, fun j v hj => ?_, by simpa using h2, h4⟩
    cases j with
    | zero =>
      obtain rfl : u = v := by simpa using hj
      exact h1
    | succ j =>
      have h6 := h3 j v (by simpa using hj)
      rw [show o + (j + 1) = o + 1 + j by omega]
      exact h6
theorem Rs.cells {w : World} {v : Value} {xss : List (List UInt8)} (h : Rs w v xss) : ∃ g c us, v = .slice (some ⟨g, 0, none⟩) us.length c ∧ g < w.heap.size ∧ (∀ j u, us[j]? = some u → w.cell? ⟨g, j, none⟩ = some u) ∧ RdAll w us xss := by
  obtain ⟨g, c, rfl, hg, hel⟩ := h
  obtain ⟨us, h1, h2⟩ := rdAll_of_cells (w := w) (g := g) xss 0 (fun i hi => by rw [Nat.zero_add]; exact hel i hi)
  exact ⟨g, c, us, by rw [h2.length], hg, fun j u hj => by have h3 := h1 j u hj; rwa [Nat.zero_add] at h3, h2⟩
theorem rs_of_own {w : World} {base n : Nat} {t : TypeId} {v : Value} {us : List Value} {xss : List (List UInt8)} (h : w.ownsRow base t 1 v n us) (hr : RdAll w us xss) (h0 : 0 < xss.length) : Rs w v xss := by
  have hl : us.length = n := by simpa using h.1
  have hl2 := hr.length
  rcases h.2 with ⟨rfl, h1⟩ | ⟨g, cap, cur, rfl, hg, hh, hn, hc, hs, ht⟩
  · omega
  · refine ⟨g, cap, by rw [← hl, hl2], ?_, fun i hi => ?_⟩
    · rcases Nat.lt_or_ge g w.heap.size with h1 | h1
      · exact h1
      · rw [Array.getElem?_eq_none h1] at hh; cases hh
    · obtain ⟨u, h1, h2⟩ := hr.at i hi
      exact ⟨u, by rw [h.cellAt (g := g) i (by omega), h1], h2⟩
theorem rs_lit {w : World} {us : List Value} {xss : List (List UInt8)} {t : TypeId} (n : Nat) (hn : n = xss.length) (hr : RdAll w us xss) : Rs (w.alloc (.cells us.toArray t)) (.slice (some ⟨w.heap.size, 0, none⟩) n n) xss := by
  subst hn
  refine ⟨w.heap.size, xss.length, rfl, by simp, fun i hi => ?_⟩
  obtain ⟨u, h1, h2⟩ := hr.at i hi
  refine ⟨u, ?_, h2.alloc _⟩
  rw [cell_of_row _ w.heap.size i _ _ _ (heap_alloc_new w _)]
  simpa using h1
theorem rs_lit1 {w : World} {v : Value} {xs : List UInt8} {t : TypeId} (h : Rd w v xs) : Rs (w.alloc (.cells #[v] t)) (.slice (some ⟨w.heap.size, 0, none⟩) 1 1) [xs] := rs_lit (us := [v]) 1 rfl ⟨h, trivial⟩
theorem rs_lit2 {w : World} {v1 v2 : Value} {x1 x2 : List UInt8} {t : TypeId} (h1 : Rd w v1 x1) (h2 : Rd w v2 x2) : Rs (w.alloc (.cells #[v1, v2] t)) (.slice (some ⟨w.heap.size, 0, none⟩) 2 2) [x1, x2] := rs_lit (us := [v1, v2]) 2 rfl ⟨h1, h2, trivial⟩
theorem rs_lit3 {w : World} {v1 v2 v3 : Value} {x1 x2 x3 : List UInt8} {t : TypeId} (h1 : Rd w v1 x1) (h2 : Rd w v2 x2) (h3 : Rd w v3 x3) : Rs (w.alloc (.cells #[v1, v2, v3] t)) (.slice (some ⟨w.heap.size, 0, none⟩) 3 3) [x1, x2, x3] := rs_lit (us := [v1, v2, v3]) 3 rfl ⟨h1, h2, h3, trivial⟩
/-- A piece of a block of bytes that is known whole. -/
theorem Blk.rdo {w : World} {B : Nat} {t : TypeId} {xs : List UInt8} (h : Blk w B t (xs.map bv)) (o n c : Nat) (hn : o + n ≤ xs.length) (hc : n ≤ c) (hm : c ≤ maxLen) : Rd w (.slice (some ⟨B, o, none⟩) n c) ((xs.drop o).take n) := by
  have hl : ((xs.drop o).take n).length = n := by rw [List.length_take, List.length_drop]; omega
  refine .inr ⟨B, o, c, by rw [hl], h.lt, by omega, hm, fun i hi => ?_⟩
  rw [hl] at hi
  rw [h.cell (o + i), List.getElem?_map, List.getElem?_eq_getElem (by omega)]
  simp [bv]
end Go.Proofs.Ytlcpplnajaldgaa
