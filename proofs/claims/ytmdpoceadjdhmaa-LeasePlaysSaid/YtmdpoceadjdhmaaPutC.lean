/- An array of bytes whose first ones are laid. No condition of its own. -/
import Derived.Test.YtmdpoceadjdhmaaMem
namespace Go.Proofs.Ytmdpoceadjdhmaa
open Go.RowKit

/-- An array of n bytes whose first i ones are laid. -/
def putC (n : Nat) (bs : List UInt8) (i : Nat) : List Value := (bs.take i).map bv ++ List.replicate (n - i) (Value.int .u8 0)
theorem putC_set {n i : Nat} {bs : List UInt8} {cc : UInt8} (hi : i < n) (h : bs[i]? = some cc) : (putC n bs i).set i (bv cc) = putC n bs (i + 1) := by
  have hl : i < bs.length := (List.getElem?_eq_some_iff.1 h).1
  have h1 : ((bs.take i).map bv).length = i := by rw [List.length_map, List.length_take]; omega
  unfold putC
  rw [List.set_append_right _ _ (by omega), h1, Nat.sub_self, show n - i = (n - (i + 1)) + 1 by omega, List.replicate_succ, List.set_cons_zero, List.take_succ_eq_append_getElem hl]
  rw [List.getElem?_eq_getElem hl] at h
  rw [Option.some.inj h]
  simp
theorem putC_length {n i : Nat} {bs : List UInt8} (hi : i ≤ n) (h : i ≤ bs.length) : (putC n bs i).length = n := by
  simp [putC]
  omega
end Go.Proofs.Ytmdpoceadjdhmaa
