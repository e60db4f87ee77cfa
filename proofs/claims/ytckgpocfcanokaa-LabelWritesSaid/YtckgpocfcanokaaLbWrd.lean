/- The fifteenth reference's Word. No condition of its own. -/
import Derived.Test.YtckgpocfcanokaaLbLet
import Derived.Test.YtckgpocfcanokaaGen
namespace Go.Proofs.Ytckgpocfcanokaa
open Go.RowKit

theorem bl_size (s : ByteArray) : s.toList.length = s.size := by rw [ByteArray.toList_eq, Array.length_toList]; rfl
theorem bl_get (s : ByteArray) (j : Nat) (h : j < s.size) : s.toList[j]? = some s[j] := by
  rw [ByteArray.toList_eq]
  exact (List.getElem?_eq_getElem (by simpa using h)).trans rfl
theorem word_yes {l : List UInt8} (h1 : 1 ≤ l.length) (h2 : l.length ≤ 24) (h3 : ∀ (j : Nat) (c : UInt8), l[j]? = some c → letterB c = true) : wordB l = true := by
  unfold wordB
  rw [decide_eq_true h1, decide_eq_true h2]
  simp only [Bool.true_and]
  refine List.all_eq_true.2 fun c hc => ?_
  obtain ⟨j, hj, rfl⟩ := List.getElem_of_mem hc
  exact h3 j _ (List.getElem?_eq_getElem hj)
theorem word_no {l : List UInt8} {j : Nat} {c : UInt8} (h : l[j]? = some c) (hc : letterB c = false) : wordB l = false := by
  cases hw : wordB l with
  | false => rfl
  | true =>
    have h1 := word_letters hw c (List.mem_of_getElem? h)
    rw [hc] at h1
    cases h1
theorem word_len {l : List UInt8} (h : ¬ (1 ≤ l.length ∧ l.length ≤ 24)) : wordB l = false := by
  cases hw : wordB l with
  | false => rfl
  | true =>
    unfold wordB at hw
    simp only [Bool.and_eq_true, decide_eq_true_eq] at hw
    exact absurd hw.1 h
set_option maxRecDepth 100000 in
set_option maxHeartbeats 1000000 in
theorem refWord_any (s : ByteArray) (w : World) (hm : s.size ≤ maxLen) :
    Calls Try.prog 17 #[.string s] w fun e w' => e = .returned (.bool (wordB s.toList)) ∧ w' = w := by
  have hsz := bl_size s
  unfold maxLen at hm
  by_cases h1 : s.size < 1
  · have HW : Hid (wordB s.toList = false) := Lib.hid (word_len (by omega))
    have k1 : decide ((s.size : Int) < 1) = true := decide_eq_true (by omega)
    clear h1 hsz hm
    go_enter Try.func17, Try.ntmps17
    go_wp2_with (fail)
    go_ret
    rw [HW.out]
    exact ⟨rfl, rfl⟩
  · have k1 : decide ((s.size : Int) < 1) = false := decide_eq_false (by omega)
    by_cases h2 : 24 < s.size
    · have HW : Hid (wordB s.toList = false) := Lib.hid (word_len (by omega))
      have k2 : decide ((24 : Int) < (s.size : Int)) = true := decide_eq_true (by omega)
      clear h1 h2 hsz hm
      go_enter Try.func17, Try.ntmps17
      go_wp2_with (fail)
      go_ret
      rw [HW.out]
      exact ⟨rfl, rfl⟩
    · have k2 : decide ((24 : Int) < (s.size : Int)) = false := decide_eq_false (by omega)
      have HS : Hid (1 ≤ s.size ∧ s.size ≤ 24) := Lib.hid (by omega)
      clear h1 h2 hsz hm
      go_enter Try.func17, Try.ntmps17
      go_wp2_with (fail)
      go_loopw [3] (fun i wr => ∃ j : Nat, i = .int .i64 (j : Int) ∧ j ≤ s.size ∧ (∀ i c, i < j → s.toList[i]? = some c → letterB c = true) ∧ wr = w) (fun i _ => s.size - (intOf i).toNat)
      case atStart => exact ⟨0, rfl, Nat.zero_le _, fun i c h => by omega, rfl⟩
      case round =>
        obtain ⟨j, rfl, hj, hall, rfl⟩ := hrel
        have HALL := Lib.hid hall
        have hs2 := HS.out.2
        have jI : (j : Int) ≤ 24 := by omega
        have sI : (s.size : Int) ≤ 24 := by omega
        clear hall
        by_cases hlt : j < s.size
        · have HG := Lib.hid (bl_get s j hlt)
          have HL : Hid (∀ W, Calls Try.prog 25 #[.int .u8 (s[j].toNat : Int)] W fun e w' => e = .returned (.bool (letterB s[j])) ∧ w' = W) := Lib.hid fun W => refLetter_any s[j] W
          clear hj hs2
          cases hb : letterB s[j] with
          | true =>
            rw [hb] at HL
            have HB := Lib.hid hb
            clear hb
            go_wp2_with (fail)
            refine (HL.out _).mono ?_
            rintro e w1 ⟨rfl, hw1⟩
            replace hw1 := hw1.symm
            subst hw1
            go_wp2_with (fail)
            refine ⟨⟨j + 1, by go_num, hlt, fun i c hi hc => ?_, by trivial⟩, by simp [intOf]; omega⟩
            by_cases e : i = j
            · subst e
              rw [HG.out] at hc
              injection hc with hc
              rw [← hc]
              exact HB.out
            · exact HALL.out i c (by omega) hc
          | false =>
            rw [hb] at HL
            have HW : Hid (wordB s.toList = false) := Lib.hid (word_no HG.out hb)
            clear hb
            go_wp2_with (fail)
            refine (HL.out _).mono ?_
            rintro e w1 ⟨rfl, hw1⟩
            replace hw1 := hw1.symm
            subst hw1
            go_wp2_with (fail)
            go_ret
            rw [HW.out]
            exact ⟨rfl, rfl⟩
        · have HW : Hid (wordB s.toList = true) := Lib.hid (word_yes (by rw [bl_size]; exact HS.out.1) (by rw [bl_size]; exact HS.out.2) fun i c hc => HALL.out i c (by
            have h3 := (List.getElem?_eq_some_iff.1 hc).1
            rw [bl_size] at h3
            omega) hc)
          clear hj hs2
          go_wp2_with (fail)
          go_ret
          rw [HW.out]
          exact ⟨rfl, rfl⟩
end Go.Proofs.Ytckgpocfcanokaa
