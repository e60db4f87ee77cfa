/- Words of 32 bits: slices and arrays of them. No condition of its own. -/
import Derived.Test.YtpegnafapjcanaaGen
import Derived.Laws.BitsAllLaws
namespace Go.Proofs.Ytpegnafapjcanaa
open Go.RowKit

theorem info_w32 : (Try.prog.info? 72).map (fun i => (i.zero, i.size, i.bytes)) = some (some (.int .u32 0), 1, 4) := by kernel_rfl
def wv (n : Nat) : Value := .int .u32 (n : Int)
/-- The value v is a slice of uint32 at the head of a block, that reads as the words ds. -/
def Rw (w : World) (v : Value) (ds : List Nat) : Prop :=
  ∃ g c, v = .slice (some ⟨g, 0, none⟩) ds.length c ∧ ds.length ≤ c ∧ c ≤ maxLen ∧ g < w.heap.size ∧ ∀ i (h : i < ds.length), w.cell? ⟨g, i, none⟩ = some (.int .u32 ((ds[i] : Nat) : Int))
theorem Rw.below {w w' : World} {v : Value} {ds : List Nat} (h : Rw w v ds) (hb : Below w.heap.size w w') : Rw w' v ds := by
  obtain ⟨g, c, h1, h2, h3, h4, h5⟩ := h
  exact ⟨g, c, h1, h2, h3, Nat.lt_of_lt_of_le h4 hb.size, fun i hi => (hb.cell (p := ⟨g, i, none⟩) h4).trans (h5 i hi)⟩
theorem Rw.drewN {w : World} {v : Value} {ds : List Nat} (h : Rw w v ds) (n : Nat) : Rw (w.drewN n) v ds := h
theorem rw_lit {w : World} {t : TypeId} {ds : List Nat} (hl : ds.length ≤ 1000) : Rw (w.alloc (.cells (ds.map wv).toArray t)) (.slice (some ⟨w.heap.size, 0, none⟩) ds.length ds.length) ds := by
  refine ⟨w.heap.size, ds.length, rfl, by omega, by unfold maxLen; omega, by simp, fun i hi => ?_⟩
  rw [World.cell?_alloc_new]
  simp [hi, wv]
theorem rw_of_own {w : World} {B n : Nat} {v : Value} {ds : List Nat} (h : w.ownsRow B 72 1 v n (ds.map wv)) (hn : 0 < n) : Rw w v ds := by
  obtain ⟨g, c, rfl, h1, h2⟩ := own_form h hn
  have hl : ds.length = n := by simpa using h.1
  refine ⟨g, c, by rw [hl], by omega, h2, (h.lt g rfl).2, fun i hi => ?_⟩
  rw [h.cellAt i (by omega), List.getElem?_map, List.getElem?_eq_getElem hi]
  rfl
theorem xor_lt32 {a b : Nat} (ha : a < 4294967296) (hb : b < 4294967296) : a ^^^ b < 4294967296 := Nat.xor_lt_two_pow (n := 32) ha hb
theorem and_lt32 {a b : Nat} (ha : a < 4294967296) : a &&& b < 4294967296 := Nat.lt_of_le_of_lt Nat.and_le_left ha
/-- The exclusive or of two bytes. -/
theorem xor_u8 (x c : UInt8) : Value.int .u8 (bits .xor .u8 (x.toNat : Int) (c.toNat : Int)) = bv (x ^^^ c) := by
  unfold bv
  rw [u8_xor_nat _ _ x.toNat_lt c.toNat_lt, UInt8.toNat_xor]
/-- The value of a row of words that is an array. -/
def wordsV (ds : List Nat) : Value := .agg (ds.map wv).toArray
theorem wv_one (ds : List Nat) : ∀ u ∈ ds.map wv, u.oneCell' = true := by
  intro u hu
  obtain ⟨b, _, rfl⟩ := List.mem_map.1 hu
  rfl
end Go.Proofs.Ytpegnafapjcanaa
