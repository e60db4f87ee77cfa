/- The contract of num's isWidth. No condition of its own. -/
import Derived.Test.YtmdpoceadjdhmaaBytes
import Derived.Laws.BitsAllLaws
namespace Go.Proofs.Ytmdpoceadjdhmaa
open Go.RowKit

def isW (k : Int) : Bool := decide (1 ≤ k) && decide (k ≤ 8)
set_option maxHeartbeats 400000 in
theorem isWidth_any (k : Int) (w : World) :
    Calls Try.prog 22 #[.int .i64 k] w fun e w' => e = .returned (.bool (isW k)) ∧ w = w' := by
  by_cases h1 : 1 ≤ k
  · have e : isW k = decide (k ≤ 8) := by simp [isW, h1]
    rw [e]
    go_enter Try.func22, Try.ntmps22
    go_wp2
    go_ret
    exact ⟨rfl, rfl⟩
  · have e : isW k = false := by simp [isW, h1]
    rw [e]
    go_enter Try.func22, Try.ntmps22
    go_wp2
    go_ret
    exact ⟨rfl, rfl⟩
end Go.Proofs.Ytmdpoceadjdhmaa
