/- Part 8 of the words that the laws share: Laid. No condition of its own: each theorem says its own. -/
import Derived.Test.YtbodiioemohenaaDoorPart7
import Derived.ProofKit
import Derived.LaidMore
import Derived.OpenShut
import Derived.Stop.Joined
import Derived.Lib.LaidTab

/- The table of sha's rounds lies where the program's text lays it. No condition of its own. -/
namespace Go.Proofs.YtbodiioemohenaaDoor
open Go.RowKit

theorem gSalts : Tryd.prog.globalNamed "quaestor/sha.salts" = some 0 := by kernel_rfl
theorem gSaltsType : (Tryd.prog.globals[0]?).map (·.type) = some 140 := by kernel_rfl
theorem cells_u32 : Tryd.prog.cellsOf 121 = 1 := by kernel_rfl
theorem cells_salts : Tryd.prog.cellsOf 140 = 64 := by kernel_rfl
def kTI : List Int := List.map (fun n : Nat => (n : Int)) kT
def saltsLaid : List (String × DataW Unit) := [("quaestor/sha.salts", Rows.laid_quaestor_sha_salts)]
/-- What the condition gives the walks. -/
theorem salts_of_laid {W : World} (h : laidMetH Tryd.prog saltsLaid W) : Salts W := by
  rw [MakeChecks.laidMetH_plain _ _ _ (by kernel_rfl)] at h
  have h' : laidMet Tryd.prog [("quaestor/sha.salts", Lib.tabData .u32 kTI)] W := h
  have hT := Lib.tabIs_of_head gSalts gSaltsType Tryd.underlying140 Tryd.underlying121 cells_u32 cells_salts h'
  have hc : ∀ i (h : i < kT.length), W.cell? ⟨0, i, none⟩ = some (.int .u32 ((kT[i] : Nat) : Int)) := fun i hi => by
    have h1 := hT.cell gSalts i (by simpa [kTI] using hi)
    rw [h1]
    simp [kTI, hi]
  exact ⟨World.block_lt_of_cell? W ⟨0, 0, none⟩ (hc 0 (by decide)), hc⟩
/-- The door's own heap meets the condition. -/
theorem door_met (os : Os) (args : Array Value) : laidMetH Tryd.prog saltsLaid ((World.doorLaid Tryd.prog 400 os).forCall (fun _ _ => 0) ⟨#[], args, []⟩).memory :=
  laidMetH_of_parts3 (fuel := 8) (laidMet_of_run' 8 (by kernel_rfl) (by kernel_rfl)) (by kernel_rfl) (by kernel_rfl)
end Go.Proofs.YtbodiioemohenaaDoor
