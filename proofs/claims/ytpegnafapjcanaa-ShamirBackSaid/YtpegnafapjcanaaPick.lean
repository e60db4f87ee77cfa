/- The contract of the first reference's Pick. Condition: 1 ≤ the number of choices. -/
import Derived.Test.YtpegnafapjcanaaGen
namespace Go.Proofs.Ytpegnafapjcanaa
open Go.RowKit

/-- A choice among n. -/
theorem pick_any (k : Int) (n : Nat) (w : World) (hk : (Lit.int .i64 k).wf = true) (hn : 1 ≤ n) (hn2 : n ≤ 1000000) :
    Calls Try.prog 16 #[.int .i64 k, .int .i64 (n : Int)] w fun e w' => (∃ m : Nat, e = .returned (.int .i64 (m : Int)) ∧ m < n) ∧ w = w' := by
  have hw := bounds_i64 hk
  have n1 : (1 : Int) ≤ n := by omega
  have n2 : (n : Int) ≤ 1000000 := by omega
  by_cases hneg : k.tmod n < 0
  · have hb : -(n : Int) < k.tmod n := by have := Int.lt_tmod_of_pos k (b := n) (by omega); omega
    go_enter Try.func16, Try.ntmps16
    go_wp2
    go_ret
    refine ⟨⟨(k.tmod n + n).toNat, ret_i (by omega), by omega⟩, rfl⟩
  · have hb : k.tmod n < n := Int.tmod_lt_of_pos k (by omega)
    have hneg' : 0 ≤ k.tmod n := by omega
    go_enter Try.func16, Try.ntmps16
    go_wp2
    go_ret
    refine ⟨⟨(k.tmod n).toNat, ret_i (by omega), by omega⟩, rfl⟩
end Go.Proofs.Ytpegnafapjcanaa
