/- Part 32 of the words that the laws share: PcCmp. No condition of its own: each theorem says its own. -/
import Derived.Test.YtcicdbhffkpldaaPart1
import Derived.Lib.Bytealg
import Derived.Lib.Walk
import Derived.BigQuiet

/- cmp.Compare, cmp.Or, strings.Compare at this program: what they answer. No condition but that strings and slices are as a program's are. -/
namespace Go.Proofs.Ytcicdbhffkpldaa
open Go.RowKit

def cmpI (a b : Int) : Int := if a < b then -1 else if b < a then 1 else 0
set_option maxRecDepth 100000 in
theorem nan64 (x : Int) (w : World) : Calls Try.prog 56 #[.int .u64 x] w fun e w' => e = .returned (.bool false) ∧ w' = w := by
  go_enter Try.func56, Try.ntmps56
  go_wp2
  go_ret
  exact ⟨rfl, rfl⟩
set_option maxRecDepth 100000 in
theorem cmpU64 (a b : Int) (w : World) : Calls Try.prog 53 #[.int .u64 a, .int .u64 b] w fun e w' => e = .returned (.int .i64 (cmpI a b)) ∧ w' = w := by
  have HA := fun W => Lib.hid (nan64 a W)
  have HB := fun W => Lib.hid (nan64 b W)
  by_cases h1 : a < b
  · have k1 : decide (a < b) = true := decide_eq_true h1
    rw [show cmpI a b = -1 from if_pos h1]
    go_enter Try.func53, Try.ntmps53
    go_wp2_with (fail)
    refine ((HA _).out).mono ?_; rintro e w' ⟨rfl, h⟩; subst h
    go_wp2_with (fail)
    refine ((HB _).out).mono ?_; rintro e w' ⟨rfl, h⟩; subst h
    go_wp2_with (fail)
    go_ret
    exact ⟨rfl, rfl⟩
  · have k1 : decide (a < b) = false := decide_eq_false h1
    by_cases h2 : b < a
    · have k2 : decide (b < a) = true := decide_eq_true h2
      rw [show cmpI a b = 1 from (if_neg h1).trans (if_pos h2)]
      clear h1
      go_enter Try.func53, Try.ntmps53
      go_wp2_with (fail)
      refine ((HA _).out).mono ?_; rintro e w' ⟨rfl, h⟩; subst h
      go_wp2_with (fail)
      refine ((HB _).out).mono ?_; rintro e w' ⟨rfl, h⟩; subst h
      go_wp2_with (fail)
      go_ret
      exact ⟨rfl, rfl⟩
    · have k2 : decide (b < a) = false := decide_eq_false h2
      rw [show cmpI a b = 0 from (if_neg h1).trans (if_neg h2)]
      clear h1 h2
      go_enter Try.func53, Try.ntmps53
      go_wp2_with (fail)
      refine ((HA _).out).mono ?_; rintro e w' ⟨rfl, h⟩; subst h
      go_wp2_with (fail)
      refine ((HB _).out).mono ?_; rintro e w' ⟨rfl, h⟩; subst h
      go_wp2_with (fail)
      go_ret
      exact ⟨rfl, rfl⟩
set_option maxRecDepth 100000 in
theorem nan16 (x : Int) (w : World) : Calls Try.prog 57 #[.int .u16 x] w fun e w' => e = .returned (.bool false) ∧ w' = w := by
  go_enter Try.func57, Try.ntmps57
  go_wp2
  go_ret
  exact ⟨rfl, rfl⟩
set_option maxRecDepth 100000 in
theorem cmpU16 (a b : Int) (w : World) : Calls Try.prog 54 #[.int .u16 a, .int .u16 b] w fun e w' => e = .returned (.int .i64 (cmpI a b)) ∧ w' = w := by
  have HA := fun W => Lib.hid (nan16 a W)
  have HB := fun W => Lib.hid (nan16 b W)
  by_cases h1 : a < b
  · have k1 : decide (a < b) = true := decide_eq_true h1
    rw [show cmpI a b = -1 from if_pos h1]
    go_enter Try.func54, Try.ntmps54
    go_wp2_with (fail)
    refine ((HA _).out).mono ?_; rintro e w' ⟨rfl, h⟩; subst h
    go_wp2_with (fail)
    refine ((HB _).out).mono ?_; rintro e w' ⟨rfl, h⟩; subst h
    go_wp2_with (fail)
    go_ret
    exact ⟨rfl, rfl⟩
  · have k1 : decide (a < b) = false := decide_eq_false h1
    by_cases h2 : b < a
    · have k2 : decide (b < a) = true := decide_eq_true h2
      rw [show cmpI a b = 1 from (if_neg h1).trans (if_pos h2)]
      clear h1
      go_enter Try.func54, Try.ntmps54
      go_wp2_with (fail)
      refine ((HA _).out).mono ?_; rintro e w' ⟨rfl, h⟩; subst h
      go_wp2_with (fail)
      refine ((HB _).out).mono ?_; rintro e w' ⟨rfl, h⟩; subst h
      go_wp2_with (fail)
      go_ret
      exact ⟨rfl, rfl⟩
    · have k2 : decide (b < a) = false := decide_eq_false h2
      rw [show cmpI a b = 0 from (if_neg h1).trans (if_neg h2)]
      clear h1 h2
      go_enter Try.func54, Try.ntmps54
      go_wp2_with (fail)
      refine ((HA _).out).mono ?_; rintro e w' ⟨rfl, h⟩; subst h
      go_wp2_with (fail)
      refine ((HB _).out).mono ?_; rintro e w' ⟨rfl, h⟩; subst h
      go_wp2_with (fail)
      go_ret
      exact ⟨rfl, rfl⟩
set_option maxRecDepth 100000 in
theorem nanI (x : Int) (w : World) : Calls Try.prog 52 #[.int .i64 x] w fun e w' => e = .returned (.bool false) ∧ w' = w := by
  go_enter Try.func52, Try.ntmps52
  go_wp2
  go_ret
  exact ⟨rfl, rfl⟩
set_option maxRecDepth 100000 in
theorem cmpI64 (a b : Int) (w : World) : Calls Try.prog 49 #[.int .i64 a, .int .i64 b] w fun e w' => e = .returned (.int .i64 (cmpI a b)) ∧ w' = w := by
  have HA := fun W => Lib.hid (nanI a W)
  have HB := fun W => Lib.hid (nanI b W)
  by_cases h1 : a < b
  · have k1 : decide (a < b) = true := decide_eq_true h1
    rw [show cmpI a b = -1 from if_pos h1]
    go_enter Try.func49, Try.ntmps49
    go_wp2_with (fail)
    refine ((HA _).out).mono ?_; rintro e w' ⟨rfl, h⟩; subst h
    go_wp2_with (fail)
    refine ((HB _).out).mono ?_; rintro e w' ⟨rfl, h⟩; subst h
    go_wp2_with (fail)
    go_ret
    exact ⟨rfl, rfl⟩
  · have k1 : decide (a < b) = false := decide_eq_false h1
    by_cases h2 : b < a
    · have k2 : decide (b < a) = true := decide_eq_true h2
      rw [show cmpI a b = 1 from (if_neg h1).trans (if_pos h2)]
      clear h1
      go_enter Try.func49, Try.ntmps49
      go_wp2_with (fail)
      refine ((HA _).out).mono ?_; rintro e w' ⟨rfl, h⟩; subst h
      go_wp2_with (fail)
      refine ((HB _).out).mono ?_; rintro e w' ⟨rfl, h⟩; subst h
      go_wp2_with (fail)
      go_ret
      exact ⟨rfl, rfl⟩
    · have k2 : decide (b < a) = false := decide_eq_false h2
      rw [show cmpI a b = 0 from (if_neg h1).trans (if_neg h2)]
      clear h1 h2
      go_enter Try.func49, Try.ntmps49
      go_wp2_with (fail)
      refine ((HA _).out).mono ?_; rintro e w' ⟨rfl, h⟩; subst h
      go_wp2_with (fail)
      refine ((HB _).out).mono ?_; rintro e w' ⟨rfl, h⟩; subst h
      go_wp2_with (fail)
      go_ret
      exact ⟨rfl, rfl⟩
set_option maxRecDepth 100000 in
theorem cmpStr0 (a b : ByteArray) (w : World) : Calls Try.prog 51 #[.string a, .string b] w fun e w' => e = .returned (.int .i64 (Lib.compareBytes a.data.toList b.data.toList)) ∧ w' = w := by
  go_enter Try.func51, Try.ntmps51
  go_wp2
  rw [run_callFunc_extern Try.func55 (by kernel_rfl) (by kernel_rfl) (by kernel_rfl) (e := Extern.BytealgCompare.compare) (by kernel_rfl), Lib.run_compareString]
  simp only [Result.andThen]
  rw [Oper.upon_value]
  go_wp2
  go_ret
  exact ⟨rfl, rfl⟩
set_option maxRecDepth 100000 in
theorem cmpStr (a b : ByteArray) (w : World) : Calls Try.prog 48 #[.string a, .string b] w fun e w' => e = .returned (.int .i64 (Lib.compareBytes a.data.toList b.data.toList)) ∧ w' = w := by
  go_enter Try.func48, Try.ntmps48
  go_wp2_with (fail)
  refine (cmpStr0 a b _).mono ?_
  rintro e w' ⟨rfl, h⟩
  subst h
  go_wp2_with (fail)
  go_ret
  exact ⟨rfl, rfl⟩
/-- The first of some numbers that isn't 0. -/
def orL : List Int → Int
  | [] => 0
  | x :: l => if x ≠ 0 then x else orL l
set_option maxRecDepth 100000 in
set_option maxHeartbeats 1000000 in
theorem cmpOr (zs : List Int) (g c : Nat) (w : World) (hm : zs.length ≤ maxLen) (hz : ∀ i y, zs[i]? = some y → w.cell? ⟨g, i, none⟩ = some (.int .i64 y)) :
    Calls Try.prog 47 #[.slice (some ⟨g, 0, none⟩) zs.length c] w fun e w' => e = .returned (.int .i64 (orL zs)) ∧ w' = w := by
  unfold maxLen at hm
  have pI : (zs.length : Int) ≤ 9223372036854775807 := by omega
  obtain ⟨r, hr⟩ : ∃ r, r = orL zs := ⟨_, rfl⟩
  rw [← hr]
  have HR := Lib.hid hr
  have HZ := Lib.hid hz
  clear hr hz hm
  go_enter Try.func47, Try.ntmps47
  go_wp2_with (fail)
  go_loopw [8] (fun x wx => ∃ (j : Nat), x = .int .i64 (j : Int) ∧ j ≤ zs.length ∧ orL zs = orL (zs.drop j) ∧ wx = w) (fun x _ => zs.length - (intOf x).toNat)
  case atStart => exact ⟨0, rfl, Nat.zero_le _, rfl, rfl⟩
  case round =>
    obtain ⟨j, rfl, hj, hd, rfl⟩ := hrel
    have HD := Lib.hid hd
    clear hd
    by_cases hlt : j < zs.length
    · have jI : (j : Int) < zs.length := by omega
      have j1 : decide (j < zs.length) = true := decide_eq_true hlt
      have HLT := Lib.hid hlt
      obtain ⟨y, hy⟩ : ∃ y, zs[j]? = some y := ⟨_, List.getElem?_eq_getElem hlt⟩
      have hc := HZ.out j y hy
      have HN : Hid (zs.drop j = y :: zs.drop (j + 1)) := Lib.hid (by
        rw [List.drop_eq_getElem_cons hlt]
        rw [List.getElem?_eq_getElem hlt] at hy
        injection hy with hy
        rw [hy])
      clear hy hlt
      by_cases h0 : y = 0
      · subst h0
        go_wp2_with (fail)
        have hlt := HLT.out
        refine ⟨⟨j + 1, by go_num, by omega, ?_, by first | rfl | trivial⟩, by simp [intOf]; omega⟩
        rw [HD.out, HN.out]
        rfl
      · have h1 : (y == 0) = false := by simp [h0]
        have HY := Lib.hid h0
        clear h0
        go_wp2_with (fail)
        go_ret
        refine ⟨?_, rfl⟩
        rw [HR.out, HD.out, HN.out, orL, if_pos HY.out]
        rfl
    · obtain rfl : j = zs.length := by omega
      have HE : Hid (r = 0) := Lib.hid (by rw [HR.out, HD.out, List.drop_length]; rfl)
      clear hlt hj
      go_wp2_with (fail)
      go_ret
      rw [HE.out]
      exact ⟨rfl, rfl⟩
end Go.Proofs.Ytcicdbhffkpldaa
