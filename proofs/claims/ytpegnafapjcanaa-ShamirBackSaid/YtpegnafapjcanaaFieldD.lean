/- What laws need of field's functions: contracts. No condition of its own. -/
import Derived.Test.YtpegnafapjcanaaFGev
import Derived.Test.YtpegnafapjcanaaBlk
namespace Go.Proofs.Ytpegnafapjcanaa
open Go.RowKit

/-- The tables' cells: the powers of 3, once more the first one, the logarithms. -/
def tabN : List Nat := expL ++ [1] ++ (List.range 256).map logN
def Tab (W : World) (B : Nat) : Prop := Blk W B 59 (tabN.map fun n : Nat => Value.int .u8 (n : Int))
theorem Tab.below {W W' : World} {B : Nat} (h : Tab W B) (hb : Below W.heap.size W W') : Tab W' B := Blk.below h hb (Blk.lt h)
theorem Tab.drewN {W : World} {B : Nat} (h : Tab W B) (n : Nat) : Tab (W.drewN n) B := h
def BuildC : Prop := ∀ w : World, Calls Try.prog 20 #[] w fun e w' => ∃ B, e = .returned (.pointer (some ⟨B, 0, none⟩)) ∧ Tab w' B ∧ Below w.heap.size w w'
def MulC : Prop := ∀ (B a b : Nat) (w : World), Tab w B → a < 256 → b < 256 →
  Calls Try.prog 24 #[.pointer (some ⟨B, 0, none⟩), .int .u8 (a : Int), .int .u8 (b : Int)] w fun e w' => e = .returned (.int .u8 (gmul a b : Nat)) ∧ ∃ m, w' = w.drewN m
def InvC : Prop := ∀ (B a : Nat) (w : World), Tab w B → a < 256 →
  Calls Try.prog 30 #[.pointer (some ⟨B, 0, none⟩), .int .u8 (a : Int)] w fun e w' => e = .returned (.tuple #[.int .u8 (ginv a : Nat), .int .i64 (if a = 0 then 1 else 0)]) ∧ ∃ m, w' = w.drewN m
def DivC : Prop := ∀ (B a b : Nat) (w : World), Tab w B → a < 256 → b < 256 →
  Calls Try.prog 29 #[.pointer (some ⟨B, 0, none⟩), .int .u8 (a : Int), .int .u8 (b : Int)] w fun e w' => e = .returned (.tuple #[.int .u8 (gmul a (ginv b) : Nat), .int .i64 (if b = 0 then 1 else 0)]) ∧ ∃ m, w' = w.drewN m
def EvalC : Prop := ∀ (B : Nat) (v : Value) (l : List UInt8) (x : Nat) (w : World), Tab w B → Rd w v l → l.length ≤ 1000 → x < 256 →
  Calls Try.prog 27 #[.pointer (some ⟨B, 0, none⟩), v, .int .u8 (x : Int)] w fun e w' => e = .returned (.int .u8 (geval l x : Nat)) ∧ ∃ m, w' = w.drewN m
/-- Tables of any bytes. -/
def AnyT (W : World) (B : Nat) : Prop := ∃ bs : List UInt8, bs.length = 512 ∧ Blk W B 59 (bs.map bv)
theorem AnyT.below {W W' : World} {B : Nat} (h : AnyT W B) (hb : Below W.heap.size W W') : AnyT W' B := by
  obtain ⟨bs, h1, h2⟩ := h
  exact ⟨bs, h1, h2.below hb h2.lt⟩
def MulA : Prop := ∀ (B a b : Nat) (w : World), AnyT w B → a < 256 → b < 256 →
  Calls Try.prog 24 #[.pointer (some ⟨B, 0, none⟩), .int .u8 (a : Int), .int .u8 (b : Int)] w fun e w' => (∃ v, e = .returned v) ∧ Below w.heap.size w w'
def InvA : Prop := ∀ (B a : Nat) (w : World), AnyT w B → a < 256 →
  Calls Try.prog 30 #[.pointer (some ⟨B, 0, none⟩), .int .u8 (a : Int)] w fun e w' => (∃ v, e = .returned v) ∧ Below w.heap.size w w'
def DivA : Prop := ∀ (B a b : Nat) (w : World), AnyT w B → a < 256 → b < 256 →
  Calls Try.prog 29 #[.pointer (some ⟨B, 0, none⟩), .int .u8 (a : Int), .int .u8 (b : Int)] w fun e w' => (∃ v, e = .returned v) ∧ Below w.heap.size w w'
def EvalA : Prop := ∀ (B : Nat) (v : Value) (l : List UInt8) (x : Nat) (w : World), AnyT w B → Rd w v l → l.length ≤ 1000 → x < 256 →
  Calls Try.prog 27 #[.pointer (some ⟨B, 0, none⟩), v, .int .u8 (x : Int)] w fun e w' => (∃ v, e = .returned v) ∧ Below w.heap.size w w'
def MulN : Prop := ∀ (a b : Nat) (w : World), a < 256 → b < 256 →
  Calls Try.prog 24 #[.pointer none, .int .u8 (a : Int), .int .u8 (b : Int)] w fun e w' => e = .returned (.int .u8 0) ∧ Below w.heap.size w w'
def InvN : Prop := ∀ (a : Nat) (w : World), a < 256 →
  Calls Try.prog 30 #[.pointer none, .int .u8 (a : Int)] w fun e w' => e = .returned (.tuple #[.int .u8 0, .int .i64 1]) ∧ Below w.heap.size w w'
def DivN : Prop := ∀ (a b : Nat) (w : World), a < 256 → b < 256 →
  Calls Try.prog 29 #[.pointer none, .int .u8 (a : Int), .int .u8 (b : Int)] w fun e w' => e = .returned (.tuple #[.int .u8 0, .int .i64 1]) ∧ Below w.heap.size w w'
def EvalN : Prop := ∀ (v : Value) (l : List UInt8) (x : Nat) (w : World), Rd w v l → l.length ≤ 1000 → x < 256 →
  Calls Try.prog 27 #[.pointer none, v, .int .u8 (x : Int)] w fun e w' => e = .returned (.int .u8 0) ∧ Below w.heap.size w w'
theorem gmul_back {a b : Nat} (ha : a < 256) (hb : b < 256) (h0 : b ≠ 0) : gmul (gmul a b) (ginv b) = a := by
  rw [gmul_assoc ha hb (ginv_lt b), gmul_ginv hb h0, gmul_one ha]
end Go.Proofs.Ytpegnafapjcanaa
