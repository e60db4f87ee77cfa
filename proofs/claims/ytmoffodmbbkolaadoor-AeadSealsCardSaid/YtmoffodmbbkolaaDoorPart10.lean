/- Part 10 of the words that the laws share: LaidQ. No condition of its own: each theorem says its own. -/
import Derived.Test.YtmoffodmbbkolaaDoorPart9
import Derived.ProofKit
import Derived.LaidMore
import Derived.OpenShut
import Derived.Stop.Joined
import Derived.Lib.LaidTab

/- The table of chacha's quarters lies where the program's text lays it. No condition of its own. -/
namespace Go.Proofs.YtmoffodmbbkolaaDoor
open Go.RowKit

theorem gQ : Tryd.prog.globalNamed "quaestor/chacha.quarters" = some 0 := by kernel_rfl
theorem gQType : (Tryd.prog.globals[0]?).map (·.type) = some 75 := by kernel_rfl
theorem q_int : Tryd.prog.underlying 3 = some (.int .i64) := by kernel_rfl
theorem cells_int : Tryd.prog.cellsOf 3 = 1 := by kernel_rfl
theorem cells_4 : Tryd.prog.cellsOf 74 = 4 := by kernel_rfl
def qRow (i : Nat) : List Int := ((qT.drop (4 * i)).take 4).map fun n : Nat => (n : Int)
def quartsLaid : List (String × DataW Unit) := [("quaestor/chacha.quarters", Rows.laid_quaestor_chacha_quarters)]
theorem q_shape : (Rows.laid_quaestor_chacha_quarters : DataW Unit) = .agg ((List.range 8).map fun i => Lib.tabData .i64 (qRow i)) := by rfl
/-- What the condition gives the walks. -/
theorem quarts_of_laid {W : World} (h : laidMetH Tryd.prog quartsLaid W) : Qs W := by
  rw [MakeChecks.laidMetH_plain _ _ _ (by kernel_rfl)] at h
  have h' : laidMet Tryd.prog [("quaestor/chacha.quarters", .agg ((List.range 8).map fun i => Lib.tabData .i64 (qRow i)))] W := q_shape ▸ h
  obtain ⟨ps, ⟨g', t', cs, fuel, p, q, hg', ht', hvar, hd, _, _⟩, _⟩ := h'
  obtain rfl := Option.some.inj (gQ.symm.trans hg')
  obtain rfl := Option.some.inj (gQType.symm.trans ht')
  obtain ⟨xs, m, _, hx, _, hxl, hel⟩ := DataW.trod_array Tryd.underlying75 hd
  have hxs : xs.map (·.1) = (List.range 8).map fun i => (Lib.tabData .i64 (qRow i) : DataW Unit) := by
    have := congrArg Prod.fst hx
    simpa using this.symm
  have hrow : ∀ i, i < 8 → (cs.toList.drop (i * 4)).take 4 = (qRow i).map fun z => Value.int .i64 z := fun i hi => by
    have h1 := hel i hi
    rw [cells_4] at h1
    have h2 : (xs.map (·.1))[i]? = some (Lib.tabData .i64 (qRow i)) := by rw [hxs]; simp [hi]
    rw [List.getElem?_map, Option.map_eq_some_iff] at h2
    obtain ⟨⟨d, ps2⟩, h3, h4⟩ := h2
    rw [h3] at h1
    have h4' : d = Lib.tabData .i64 (qRow i) := h4
    subst h4'
    exact Lib.cells_of_tab Tryd.underlying74 q_int cells_int cells_4 h1
  have hcell : ∀ j, j < 32 → W.cell? ⟨0, j, none⟩ = some (.int .i64 ((qT.getD j 0 : Nat) : Int)) := fun j hj => by
    rw [World.var?_cell gQ hvar j]
    have h1 := hrow (j / 4) (by omega)
    have h2 := congrArg (·[j % 4]?) h1
    simp only [List.getElem?_take, List.getElem?_drop, if_pos (show j % 4 < 4 by omega), show j / 4 * 4 + j % 4 = j by omega] at h2
    have h3 : cs[j]? = cs.toList[j]? := by simp
    have h4 : ((qRow (j / 4)).map fun z => Value.int .i64 z)[j % 4]? = some (.int .i64 ((qT.getD j 0 : Nat) : Int)) := by
      unfold qRow
      rw [List.getElem?_map, List.getElem?_map, List.getElem?_take, if_pos (by omega), List.getElem?_drop, show 4 * (j / 4) + j % 4 = j by omega, List.getElem?_eq_getElem (show j < qT.length from hj)]
      rw [List.getD, List.getElem?_eq_getElem (show j < qT.length from hj)]
      rfl
    rw [h3, h2]
    exact h4
  exact ⟨World.block_lt_of_cell? W ⟨0, 0, none⟩ (hcell 0 (by omega)), hcell⟩
/-- The door's own heap meets the condition. -/
theorem qdoor_met (os : Os) (args : Array Value) : laidMetH Tryd.prog quartsLaid ((World.doorLaid Tryd.prog 400 os).forCall (fun _ _ => 0) ⟨#[], args, []⟩).memory :=
  laidMetH_of_parts3 (fuel := 8) (laidMet_of_run' 8 (by kernel_rfl) (by kernel_rfl)) (by kernel_rfl) (by kernel_rfl)
end Go.Proofs.YtmoffodmbbkolaaDoor
