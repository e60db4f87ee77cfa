/- What the seventh layer's laws need of field's functions, and the walks of the example and of 'FieldLaws' over that. Premises: the contracts themselves. -/
import Derived.Test.YtnkalmclbpgnbaaFRefE
import Derived.Test.YtnkalmclbpgnbaaBlk
namespace Go.Proofs.Ytnkalmclbpgnbaa
open Go.RowKit

/-- The tables' cells: the powers of 3, once more the first one, the logarithms. -/
def tabN : List Nat := expL ++ [1] ++ (List.range 256).map logN
def Tab (W : World) (B : Nat) : Prop := Blk W B 26 (tabN.map fun n : Nat => Value.int .u8 (n : Int))
theorem Tab.below {W W' : World} {B : Nat} (h : Tab W B) (hb : Below W.heap.size W W') : Tab W' B := Blk.below h hb (Blk.lt h)
theorem Tab.drewN {W : World} {B : Nat} (h : Tab W B) (n : Nat) : Tab (W.drewN n) B := h
def BuildC : Prop := ∀ w : World, Calls Try.prog 8 #[] w fun e w' => ∃ B, e = .returned (.pointer (some ⟨B, 0, none⟩)) ∧ Tab w' B ∧ Below w.heap.size w w'
def MulC : Prop := ∀ (B a b : Nat) (w : World), Tab w B → a < 256 → b < 256 →
  Calls Try.prog 13 #[.pointer (some ⟨B, 0, none⟩), .int .u8 (a : Int), .int .u8 (b : Int)] w fun e w' => e = .returned (.int .u8 (gmul a b : Nat)) ∧ ∃ m, w' = w.drewN m
def InvC : Prop := ∀ (B a : Nat) (w : World), Tab w B → a < 256 →
  Calls Try.prog 11 #[.pointer (some ⟨B, 0, none⟩), .int .u8 (a : Int)] w fun e w' => e = .returned (.tuple #[.int .u8 (ginv a : Nat), .int .i64 (if a = 0 then 1 else 0)]) ∧ ∃ m, w' = w.drewN m
def DivC : Prop := ∀ (B a b : Nat) (w : World), Tab w B → a < 256 → b < 256 →
  Calls Try.prog 12 #[.pointer (some ⟨B, 0, none⟩), .int .u8 (a : Int), .int .u8 (b : Int)] w fun e w' => e = .returned (.tuple #[.int .u8 (gmul a (ginv b) : Nat), .int .i64 (if b = 0 then 1 else 0)]) ∧ ∃ m, w' = w.drewN m
def EvalC : Prop := ∀ (B : Nat) (v : Value) (l : List UInt8) (x : Nat) (w : World), Tab w B → Rd w v l → l.length ≤ 1000 → x < 256 →
  Calls Try.prog 14 #[.pointer (some ⟨B, 0, none⟩), v, .int .u8 (x : Int)] w fun e w' => e = .returned (.int .u8 (geval l x : Nat)) ∧ ∃ m, w' = w.drewN m
/-- Tables of any bytes. -/
def AnyT (W : World) (B : Nat) : Prop := ∃ bs : List UInt8, bs.length = 512 ∧ Blk W B 26 (bs.map bv)
theorem AnyT.below {W W' : World} {B : Nat} (h : AnyT W B) (hb : Below W.heap.size W W') : AnyT W' B := by
  obtain ⟨bs, h1, h2⟩ := h
  exact ⟨bs, h1, h2.below hb h2.lt⟩
def MulA : Prop := ∀ (B a b : Nat) (w : World), AnyT w B → a < 256 → b < 256 →
  Calls Try.prog 13 #[.pointer (some ⟨B, 0, none⟩), .int .u8 (a : Int), .int .u8 (b : Int)] w fun e w' => (∃ v, e = .returned v) ∧ Below w.heap.size w w'
def InvA : Prop := ∀ (B a : Nat) (w : World), AnyT w B → a < 256 →
  Calls Try.prog 11 #[.pointer (some ⟨B, 0, none⟩), .int .u8 (a : Int)] w fun e w' => (∃ v, e = .returned v) ∧ Below w.heap.size w w'
def DivA : Prop := ∀ (B a b : Nat) (w : World), AnyT w B → a < 256 → b < 256 →
  Calls Try.prog 12 #[.pointer (some ⟨B, 0, none⟩), .int .u8 (a : Int), .int .u8 (b : Int)] w fun e w' => (∃ v, e = .returned v) ∧ Below w.heap.size w w'
def EvalA : Prop := ∀ (B : Nat) (v : Value) (l : List UInt8) (x : Nat) (w : World), AnyT w B → Rd w v l → l.length ≤ 1000 → x < 256 →
  Calls Try.prog 14 #[.pointer (some ⟨B, 0, none⟩), v, .int .u8 (x : Int)] w fun e w' => (∃ v, e = .returned v) ∧ Below w.heap.size w w'
def MulN : Prop := ∀ (a b : Nat) (w : World), a < 256 → b < 256 →
  Calls Try.prog 13 #[.pointer none, .int .u8 (a : Int), .int .u8 (b : Int)] w fun e w' => e = .returned (.int .u8 0) ∧ Below w.heap.size w w'
def InvN : Prop := ∀ (a : Nat) (w : World), a < 256 →
  Calls Try.prog 11 #[.pointer none, .int .u8 (a : Int)] w fun e w' => e = .returned (.tuple #[.int .u8 0, .int .i64 1]) ∧ Below w.heap.size w w'
def DivN : Prop := ∀ (a b : Nat) (w : World), a < 256 → b < 256 →
  Calls Try.prog 12 #[.pointer none, .int .u8 (a : Int), .int .u8 (b : Int)] w fun e w' => e = .returned (.tuple #[.int .u8 0, .int .i64 1]) ∧ Below w.heap.size w w'
def EvalN : Prop := ∀ (v : Value) (l : List UInt8) (x : Nat) (w : World), Rd w v l → l.length ≤ 1000 → x < 256 →
  Calls Try.prog 14 #[.pointer none, v, .int .u8 (x : Int)] w fun e w' => e = .returned (.int .u8 0) ∧ Below w.heap.size w w'
set_option maxRecDepth 100000 in
set_option maxHeartbeats 1000000 in
theorem fieldAwake_any (HB : BuildC) (HM : MulC) (w : World) :
    Calls Try.prog 10 #[] w fun e w' => e = .returned (.bool true) ∧ Below w.heap.size w w' := by
  go_enter Try.func10, Try.ntmps10
  go_wp2_with (fail)
  refine (HB w).mono ?_
  rintro e w1 ⟨B, rfl, ht, hb1⟩
  have HT := Lib.hid ht
  have D1 := Lib.hid hb1
  clear ht hb1
  go_wp2_with (fail)
  have h := HM B 87 131 w1 HT.out (by decide) (by decide)
  rw [show gmul 87 131 = 193 by decide +kernel] at h
  refine h.mono ?_
  rintro e w2 ⟨rfl, m, rfl⟩
  go_wp2_with (fail)
  go_ret
  exact ⟨rfl, below_drewN D1.out m⟩
theorem gmul_back {a b : Nat} (ha : a < 256) (hb : b < 256) (h0 : b ≠ 0) : gmul (gmul a b) (ginv b) = a := by
  rw [gmul_assoc ha hb (ginv_lt b), gmul_ginv hb h0, gmul_one ha]
end Go.Proofs.Ytnkalmclbpgnbaa
