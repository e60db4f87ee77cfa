/- A wipe: the pair's sectors hold these bytes, twice, and nothing else. No program in sight. Conditions: there is room; no fuse. -/
import Derived.Test.YtnaccngcpjkmbaaDoorPart15
namespace Go.Proofs.YtnaccngcpjkmbaaDoor
open Go.RowKit

/-- A sector of a slot that was wiped. -/
def secW (fp : List UInt8 → List UInt8) (bs : List UInt8) (n i : Nat) : List UInt8 := if i < cntS bs.length then pad128 (partS fp bs n i) else z128
theorem laid_sec {fp : List UInt8 → List UInt8} (bs : List UInt8) (n k i : Nat) : pad128 ((laidS fp bs n k true).getD i []) = secW fp bs n i := by
  unfold secW
  rcases Nat.lt_or_ge i (cntS bs.length) with h | h
  · rw [if_pos h, laidS_part h]
  · rw [if_neg (by omega), laidS_behind h]
    rfl
theorem wiped {fp : List UInt8 → List UInt8} (hf : ∀ b, (fp b).length = 8) {S : DS} (hc : Calm S) (h0 : S.fuse = 0) {a k : Nat} {bs : List UInt8} (h1 : 1 ≤ k) (h2 : a + 2 * k ≤ 1024) (hb : bs.length ≤ 104 * k) (hm : mostS S a k < 1000000) {S1 S2 : DS} {e1 e2 : Nat} (hS1 : saveS fp S a k bs true = (S1, e1)) (hS2 : saveS fp S1 a k bs true = (S2, e2)) :
    e1 = 0 ∧ e2 = 0 ∧ S1.dead = false ∧ S1.fuse = 0 ∧ mostS S1 a k = mostS S a k + 1 ∧ S1.ops ≤ S.ops + k + 1 ∧ S2.dead = false ∧ ∃ s, s ≤ 1 ∧ ∀ i, i < k → viewS S2 (a + k * s) i = some (secW fp bs (mostS S a k + 2) i) ∧ viewS S2 (a + k * (1 - s)) i = some (secW fp bs (mostS S a k + 1) i) := by
  obtain ⟨a1, a2⟩ := save_none (wiped := true) hf hc.on h0 h1 h2 hb
  obtain ⟨b1, b2, b3, b4, b5⟩ := save_done (wiped := true) hf hc h1 h2 hb (by omega) a1
  have o1 := (save_cases (wiped := true) hf hc h1 h2 hb).1
  rw [hS1] at a1 a2 b1 b2 b3 b4 b5 o1
  have a1 : e1 = 0 := a1
  have a2 : S1.fuse = 0 := a2
  have b1 : Calm S1 := b1
  have b3 : mostS S1 a k = mostS S a k + 1 := b3
  obtain ⟨c1, c2⟩ := save_none (wiped := true) hf b1.on a2 h1 h2 hb
  obtain ⟨d1, d2, d3, d4, d5⟩ := save_done (wiped := true) hf b1 h1 h2 hb (by omega) c1
  rw [hS2] at c1 c2 d1 d2 d3 d4 d5
  have c1 : e2 = 0 := c1
  have hl := (laidS_length (fp := fp) (n := mostS S a k + 1) (wiped := true) (cntS_le hb h1)).2.2.2 rfl
  have hl2 := (laidS_length (fp := fp) (n := mostS S1 a k + 1) (wiped := true) (cntS_le hb h1)).2.2.2 rfl
  have b2 : loadS fp S1 a k = some (bs, mostS S a k + 1, 1 - slotN (loadS fp S a k)) := b2
  have hs : slotN (loadS fp S1 a k) = 1 - slotN (loadS fp S a k) := by
    rw [b2]
    rfl
  refine ⟨a1, c1, b1.on, a2, b3, o1, d1.on, 1 - slotN (loadS fp S1 a k), by omega, fun i hi => ?_⟩
  have h01 := slotN_01 (fp := fp) (S := S1) (a := a) (k := k)
  have e5 := d5 i (by rw [hl2]; exact hi)
  have e4 := d4 i hi
  rw [laid_sec, b3] at e5
  refine ⟨e5, ?_⟩
  have e : 1 - (1 - slotN (loadS fp S1 a k)) = slotN (loadS fp S1 a k) := by omega
  rw [e]
  refine e4.trans ?_
  rw [hs]
  have e6 := b5 i (by rw [hl]; exact hi)
  rw [laid_sec] at e6
  exact e6
end Go.Proofs.YtnaccngcpjkmbaaDoor
