/- Words of 64 bits: slices of them. No condition of its own. -/
import Derived.Test.YtlcpplnajaldgaaGen
namespace Go.Proofs.Ytlcpplnajaldgaa
open Go.RowKit

theorem info_u64 : (Try.prog.info? 42).map (fun i => (i.zero, i.size, i.bytes)) = some (some (.int .u64 0), 1, 8) := by kernel_rfl
def wq (n : Nat) : Value := .int .u64 (n : Int)
theorem wq_one (ds : List Nat) : ∀ u ∈ ds.map wq, u.oneCell' = true := by
  intro u hu
  obtain ⟨b, _, rfl⟩ := List.mem_map.1 hu
  rfl
/-- The value v is a slice of uint64 at the head of a block, that reads as the numbers ds. -/
def Rq (w : World) (v : Value) (ds : List Nat) : Prop :=
  ∃ g c, v = .slice (some ⟨g, 0, none⟩) ds.length c ∧ ds.length ≤ c ∧ c ≤ maxLen ∧ g < w.heap.size ∧ ∀ i (_ : i < ds.length), w.cell? ⟨g, i, none⟩ = some (.int .u64 ((ds.getD i 0 : Nat) : Int))
theorem Rq.below {w w' : World} {v : Value} {ds : List Nat} (h : Rq w v ds) (hb : Below w.heap.size w w') : Rq w' v ds := by
  obtain ⟨g, c, h1, h2, h3, h4, h5⟩ := h
  exact ⟨g, c, h1, h2, h3, Nat.lt_of_lt_of_le h4 hb.size, fun i hi => (hb.cell (p := ⟨g, i, none⟩) h4).trans (h5 i hi)⟩
theorem rq_cell {w : World} {B : Nat} {t : TypeId} {ds : List Nat} (h : Blk w B t (ds.map wq)) {i : Nat} (hi : i < ds.length) : w.cell? ⟨B, i, none⟩ = some (.int .u64 ((ds.getD i 0 : Nat) : Int)) := by
  rw [h.cell i, List.getElem?_map, List.getElem?_eq_getElem hi, List.getD, List.getElem?_eq_getElem hi]
  rfl
theorem rq_of_blk {w : World} {B : Nat} {t : TypeId} {ds : List Nat} (h : Blk w B t (ds.map wq)) (c : Nat) (hc : ds.length ≤ c) (hm : c ≤ maxLen) : Rq w (.slice (some ⟨B, 0, none⟩) ds.length c) ds :=
  ⟨B, c, rfl, hc, hm, h.lt, fun _ hi => rq_cell h hi⟩
/-- A row of numbers of the call's own, whole. -/
def OwnQ (w : World) (t : TypeId) (P : List Nat → Prop) (e : Ending) (w' : World) : Prop := ∃ (B : Nat) (ds : List Nat), e = .returned (.slice (some ⟨B, 0, none⟩) ds.length ds.length) ∧ w.heap.size ≤ B ∧ Blk w' B t (ds.map wq) ∧ Below w.heap.size w w' ∧ P ds
end Go.Proofs.Ytlcpplnajaldgaa
