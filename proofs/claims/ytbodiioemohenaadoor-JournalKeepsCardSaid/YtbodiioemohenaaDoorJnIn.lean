/- Rows of rows of bytes, as they come in; a head of a row of rows; a row of two bytes appended. Conditions: a slice's length is at most its capacity. -/
import Derived.Test.YtbodiioemohenaaDoorPart20
import Derived.Test.YtbodiioemohenaaDoorPart4
namespace Go.Proofs.YtbodiioemohenaaDoor
open Go.RowKit Go.ChangeShapes Go.WideShapes Go.ChangeAt

/-- A row of rows that has room for all that it holds. -/
structure RsF (w : World) (v : Value) (xss : List (List UInt8)) : Prop where
  rs : RsA w v xss
  fit : ∀ A n c, v = .slice A n c → n ≤ c
structure RsB (w : World) (v : Value) (ls : List (List (List UInt8))) : Prop where
  ex : ∃ A c, v = .slice A ls.length c ∧ ls.length ≤ maxLen ∧ ∀ i (h : i < ls.length), ∃ g o u, A = some ⟨g, o, none⟩ ∧ g < w.heap.size ∧ w.cell? ⟨g, o + i, none⟩ = some u ∧ RsF w u ls[i]
theorem RsF.head {w : World} {A : Option Addr} {c : Nat} {xss : List (List UInt8)} (h : RsF w (.slice A xss.length c) xss) (k : Nat) (hk : k ≤ xss.length) :
    ∃ A' c', (∀ W, (Instr.slice 27 (.slice A xss.length c) none (some (.int .i64 (k : Int))) none).run Tryd.prog W = .ok (.slice A' k c') W) ∧ RsA w (.slice A' k c') (xss.take k) := by
  have hc := h.fit _ _ _ rfl
  have e1 : Tryd.prog.elem 27 = 23 := by simp [Program.elem, Tryd.underlying27]
  have ht' : Tryd.prog.underlying 27 = some (.slice (Tryd.prog.elem 27)) := by rw [e1]; exact Tryd.underlying27
  obtain ⟨i0, hi0, _, h1, _⟩ : ∃ i, Tryd.prog.info? 23 = some i ∧ i.zero = some (.slice none 0 0) ∧ i.size = 1 ∧ i.bytes = 24 := by
    have h : (Tryd.prog.info? 23).map (fun i => (i.zero, i.size, i.bytes)) = some (some (.slice none 0 0), 1, 24) := by kernel_rfl
    cases hi : Tryd.prog.info? 23 with
    | none => rw [hi] at h; cases h
    | some i => rw [hi] at h; simp at h; exact ⟨i, rfl, h⟩
  refine ⟨if c = 0 then A else A.map (·.add (0 * 1)), c - 0, fun W => ?_, ?_⟩
  · rw [run_slice_h W 27 A xss.length c ht' .i64 (k : Int) (by omega) (by omega), e1, show (sizeOf 23).run Tryd.prog W = .ok 1 W by simp [sizeOf, typeInfo, hi0, h1]]
    simp [sliced]
  · obtain ⟨A1, c1, e, hm, hr⟩ := h.rs.ex
    injection e with e2 _ e3
    have hl : (xss.take k).length = k := by rw [List.length_take]; omega
    refine ⟨_, _, by rw [hl], by omega, fun i hi => ?_⟩
    obtain ⟨g, o, u, hA, h2, h3, h4, h5⟩ := hr i (by omega)
    refine ⟨g, o, u, ?_, h2, h3, by rw [List.getElem_take]; exact h4, by rw [List.getElem_take]; exact h5⟩
    rw [if_neg (by omega), e2, hA]
    rfl
/-- A row of two bytes of its own. -/
theorem rd_two_own {W w' : World} {B : Nat} {t : TypeId} {v : Value} {a b : UInt8} {n : Nat} (h : w'.ownsRow B t 1 v n ([bv a] ++ [bv b])) (hB : Below B W w') : Rd w' v [a, b] ∧ (∀ j, v.ownBlock = some j → B ≤ j) ∧ Below B W w' :=
  ⟨Rd.of_own (h : w'.ownsRow B t 1 v n ([a, b].map bv)), fun j hj => (h.lt j hj).1, hB⟩
end Go.Proofs.YtbodiioemohenaaDoor
