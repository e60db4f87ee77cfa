/- Part 17 of the words that the laws share: SlCon. No condition of its own: each theorem says its own. -/
import Derived.Test.YtbodiioemohenaaDoorPart16
import Derived.Test.YtbodiioemohenaaDoorPart12
import Derived.Test.YtbodiioemohenaaDoorPart7
import Derived.Test.YtbodiioemohenaaDoorPart5

/- What the tenth layer's laws need of the developers' slot, over a disk: a predicate that says what a pair is, and what each call makes of it. Premises: the contracts themselves. -/
namespace Go.Proofs.YtbodiioemohenaaDoor
open Go.RowKit

/-- A fingerprint's beginning. -/
def fp8 (b : List UInt8) : List UInt8 := (shaB b).take 8
/-- What is loaded: the bytes, in a new block, and their number; or nothing. -/
def LoadAns (w w' : World) (r : Option (List UInt8 × Nat × Nat)) (e : Ending) : Prop :=
  match r with
  | none => ∃ u n, e = .returned (.tuple #[u, n, .int .i64 6])
  | some (b, n, _) => ∃ u, e = .returned (.tuple #[u, .int .u64 (n : Int), .int .i64 0]) ∧ Rd w' u b ∧ ∀ j, u.ownBlock = some j → w.heap.size ≤ j
/-- A pair of slots of a disk, all blocks of both among F. -/
def Both (DC : DiskW) (At : World → Value → Value → Nat → Nat → (Nat → Prop) → Prop) (w : World) (pp dp : Value) (a k : Nat) (S : DS) (F : Nat → Prop) : Prop :=
  ∃ F1 F2, DC.Is w dp S F1 ∧ At w pp dp a k F2 ∧ (∀ j, F1 j → ¬ F2 j) ∧ F = fun j => F1 j ∨ F2 j
/-- What a call leaves of a pair and its disk. -/
structure BLeft (DC : DiskW) (At : World → Value → Value → Nat → Nat → (Nat → Prop) → Prop) (w w' : World) (pp dp : Value) (a k : Nat) (S : DS) (F : Nat → Prop) : Prop where
  both : ∃ F', Both DC At w' pp dp a k S F' ∧ ∀ j, F' j → F j ∨ w.heap.size ≤ j
  chg : Chg F w w'
structure SlotC (DC : DiskW) where
  At : World → Value → Value → Nat → Nat → (Nat → Prop) → Prop
  other : ∀ {w w' : World} {pp dp : Value} {a k : Nat} {F G : Nat → Prop}, At w pp dp a k F → Chg G w w' → (∀ j, F j → ¬ G j) → At w' pp dp a k F
  lt : ∀ {w : World} {pp dp : Value} {a k : Nat} {F : Nat → Prop}, At w pp dp a k F → ∀ j, F j → j < w.heap.size
  opn : ∀ {w : World} {dp : Value} {S : DS} {F : Nat → Prop}, DC.Is w dp S F → ∀ (a k : Int), (Lit.int .i64 a).wf = true → (Lit.int .i64 k).wf = true → 1 ≤ k → 0 ≤ a → a + 2 * k ≤ 1024 →
    Calls Tryd.prog 18 #[dp, .int .i64 a, .int .i64 k] w fun e w' => ∃ X, e = .returned (.tuple #[.pointer (some X), .int .i64 0]) ∧ (∃ G, At w' (.pointer (some X)) dp a.toNat k.toNat G ∧ ∀ j, G j → w.heap.size ≤ j) ∧ Below w.heap.size w w'
  bad : ∀ {w : World} {dp : Value} {S : DS} {F : Nat → Prop}, DC.Is w dp S F → ∀ (a k : Int), (Lit.int .i64 a).wf = true → (Lit.int .i64 k).wf = true → ¬ (1 ≤ k ∧ 0 ≤ a ∧ a + 2 * k ≤ 1024) →
    Calls Tryd.prog 18 #[dp, .int .i64 a, .int .i64 k] w fun e w' => e = .returned (.tuple #[.pointer none, .int .i64 1]) ∧ Below w.heap.size w w'
  load : ∀ {w : World} {pp dp : Value} {a k : Nat} {S : DS} {F : Nat → Prop}, Both DC At w pp dp a k S F → Salts w → 1 ≤ k → a + 2 * k ≤ 1024 →
    Calls Tryd.prog 31 #[pp] w fun e w' => LoadAns w w' (loadS fp8 S a k) e ∧ Below w.heap.size w w'
  save : ∀ {w : World} {pp dp : Value} {a k : Nat} {S : DS} {F : Nat → Prop}, Both DC At w pp dp a k S F → Salts w → (∀ j, F j → 0 < j) → 1 ≤ k → a + 2 * k ≤ 1024 → ∀ (u : Value) (bs : List UInt8), Rd w u bs → (0 < bs.length → ∀ j, u.ownBlock = some j → ¬ F j) → bs.length ≤ 104 * k → S.dead = false → mostS S a k < 1000000 → S.ops < 100000 →
    Calls Tryd.prog 21 #[pp, u] w fun e w' => ∃ n, e = .returned (.tuple #[n, .int .i64 ((saveS fp8 S a k bs false).2 : Int)]) ∧ ((saveS fp8 S a k bs false).2 = 0 → n = .int .u64 ((mostS S a k + 1 : Nat) : Int)) ∧ BLeft DC At w w' pp dp a k (saveS fp8 S a k bs false).1 F
  wipe : ∀ {w : World} {pp dp : Value} {a k : Nat} {S : DS} {F : Nat → Prop}, Both DC At w pp dp a k S F → Salts w → (∀ j, F j → 0 < j) → 1 ≤ k → a + 2 * k ≤ 1024 → ∀ (u : Value) (bs : List UInt8), Rd w u bs → (0 < bs.length → ∀ j, u.ownBlock = some j → ¬ F j) → bs.length ≤ 104 * k → S.dead = false → mostS S a k < 1000000 → S.ops < 100000 →
    (saveS fp8 S a k bs true).2 = 0 →
    Calls Tryd.prog 33 #[pp, u] w fun e w' => ∃ n, e = .returned (.tuple #[n, .int .i64 ((saveS fp8 (saveS fp8 S a k bs true).1 a k bs true).2 : Int)]) ∧ ((saveS fp8 (saveS fp8 S a k bs true).1 a k bs true).2 = 0 → n = .int .u64 ((mostS (saveS fp8 S a k bs true).1 a k + 1 : Nat) : Int)) ∧ BLeft DC At w w' pp dp a k (saveS fp8 (saveS fp8 S a k bs true).1 a k bs true).1 F
/-- The same, of a pair that is none, and of a disk that is none. -/
structure SlotN : Prop where
  opn : ∀ (a k : Int) (w : World), (Lit.int .i64 a).wf = true → (Lit.int .i64 k).wf = true → Calls Tryd.prog 18 #[.pointer none, .int .i64 a, .int .i64 k] w fun e w' => e = .returned (.tuple #[.pointer none, .int .i64 1]) ∧ Below w.heap.size w w'
  load : ∀ w : World, Calls Tryd.prog 31 #[.pointer none] w fun e w' => ∃ u n, e = .returned (.tuple #[u, n, .int .i64 6]) ∧ Below w.heap.size w w'
  save : ∀ (u : Value) (bs : List UInt8) (w : World), Rd w u bs → Calls Tryd.prog 21 #[.pointer none, u] w fun e w' => ∃ n, e = .returned (.tuple #[n, .int .i64 10]) ∧ Below w.heap.size w w'
  wipe : ∀ (u : Value) (bs : List UInt8) (w : World), Rd w u bs → Calls Tryd.prog 33 #[.pointer none, u] w fun e w' => ∃ n, e = .returned (.tuple #[n, .int .i64 10]) ∧ Below w.heap.size w w'
section
variable {DC : DiskW} (SC : SlotC DC)
/-- What a call of the disk leaves of the pair. -/
theorem both_disk {w w' : World} {pp dp : Value} {a k : Nat} {F1 F2 : Nat → Prop} {S' : DS} (ha : SC.At w pp dp a k F2) (hd : ∀ j, F1 j → ¬ F2 j) (h : DLeft DC.Is w w' dp S' F1) : BLeft DC SC.At w w' pp dp a k S' (fun j => F1 j ∨ F2 j) := by
  obtain ⟨⟨F', h1, h2⟩, h3⟩ := h
  have hlt := SC.lt ha
  refine ⟨⟨_, ⟨F', F2, h1, SC.other ha h3 fun j hj e => hd j e hj, fun j hj e => ?_, rfl⟩, fun j hj => ?_⟩, h3.mono fun j hj => .inl hj⟩
  · rcases h2 j hj with h4 | h4
    · exact hd j h4 e
    · have := hlt j e
      omega
  · rcases hj with hj | hj
    · exact (h2 j hj).imp .inl id
    · exact .inl (.inr hj)
theorem Both.other {w w' : World} {pp dp : Value} {a k : Nat} {S : DS} {F G : Nat → Prop} (h : Both DC SC.At w pp dp a k S F) (hc : Chg G w w') (hd : ∀ j, F j → ¬ G j) : Both DC SC.At w' pp dp a k S F := by
  obtain ⟨F1, F2, h1, h2, h3, rfl⟩ := h
  exact ⟨F1, F2, DC.other h1 hc fun j hj => hd j (.inl hj), SC.other h2 hc fun j hj => hd j (.inr hj), h3, rfl⟩
theorem Both.lt {w : World} {pp dp : Value} {a k : Nat} {S : DS} {F : Nat → Prop} (h : Both DC SC.At w pp dp a k S F) : ∀ j, F j → j < w.heap.size := by
  obtain ⟨F1, F2, h1, h2, h3, rfl⟩ := h
  intro j hj
  rcases hj with hj | hj
  · exact DC.lt h1 j hj
  · exact SC.lt h2 j hj
theorem Both.below {w w' : World} {pp dp : Value} {a k : Nat} {S : DS} {F : Nat → Prop} (h : Both DC SC.At w pp dp a k S F) (hb : Below w.heap.size w w') : Both DC SC.At w' pp dp a k S F :=
  h.other SC (Chg.of_below hb) fun j hj e => by have := h.lt SC j hj; omega
end
end Go.Proofs.YtbodiioemohenaaDoor
