/- The developers' wordAt, isWord, textOf (label), and strings.CutPrefix, strings.HasPrefix. Conditions: strings that may be. -/
import Derived.Test.YtckgpocfcanokaaLkWrd
import Derived.Test.YtckgpocfcanokaaLbWrd
import Derived.Lib.Strings
namespace Go.Proofs.Ytckgpocfcanokaa
open Go.RowKit

theorem tw_at {p : UInt8 → Bool} : ∀ {l : List UInt8} {j : Nat} {c : UInt8}, (∀ i c, i < j → l[i]? = some c → p c = true) → l[j]? = some c → p c = false → l.takeWhile p = l.take j
  | [], j, c, _, h, _ => by simp at h
  | a :: l, 0, c, _, h, hc => by
    rw [List.getElem?_cons_zero] at h
    injection h with h
    rw [List.takeWhile_cons, h, hc]
    simp
  | a :: l, j + 1, c, ha, h, hc => by
    have h0 : p a = true := ha 0 a (by omega) rfl
    rw [List.takeWhile_cons, h0, if_pos rfl, List.take_succ_cons, tw_at (l := l) (j := j) (c := c) (fun i c hi h => ha (i + 1) c (by omega) (by rw [List.getElem?_cons_succ]; exact h)) (by rw [List.getElem?_cons_succ] at h; exact h) hc]
theorem tw_all {p : UInt8 → Bool} : ∀ {l : List UInt8}, (∀ c ∈ l, p c = true) → l.takeWhile p = l
  | [], _ => rfl
  | a :: l, h => by rw [List.takeWhile_cons, h a (List.mem_cons_self ..), if_pos rfl, tw_all fun c hc => h c (List.mem_cons_of_mem _ hc)]
theorem tw_mem {p : UInt8 → Bool} : ∀ {l : List UInt8}, ∀ c ∈ l.takeWhile p, p c = true
  | a :: l, c, hc => by
    rw [List.takeWhile_cons] at hc
    split at hc
    · rename_i h
      rcases List.mem_cons.1 hc with e | hc
      · rw [e]; exact h
      · exact tw_mem c hc
    · exact (List.not_mem_nil hc).elim
theorem word_tw (l : List UInt8) : wordB l = (decide (1 ≤ l.length) && decide (l.length ≤ 24) && decide (l.takeWhile letterB = l)) := by
  unfold wordB
  congr 1
  rw [Bool.eq_iff_iff, List.all_eq_true, decide_eq_true_eq]
  exact ⟨fun h => tw_all h, fun h c hc => tw_mem (l := l) c (by rw [h]; exact hc)⟩
theorem ex_toList (s : ByteArray) (a b : Nat) : (s.extract a b).toList = (s.toList.drop a).take (b - a) := by
  rw [Lib.extract_toList, ByteArray.toList_eq]
set_option maxRecDepth 100000 in
set_option maxHeartbeats 1000000 in
theorem wordAt_any (s : ByteArray) (w : World) (hm : s.size ≤ maxLen) :
    Calls Try.prog 24 #[.string s] w fun e w' => ∃ b : ByteArray, e = .returned (.string b) ∧ b.toList = s.toList.takeWhile letterB ∧ w' = w := by
  have HM := Lib.hid hm
  unfold maxLen at hm
  have sI : (s.size : Int) ≤ 9223372036854775807 := by omega
  clear hm
  go_enter Try.func24, Try.ntmps24
  go_wp2_with (fail)
  go_loopw [6] (fun i wr => ∃ j : Nat, i = .int .i64 (j : Int) ∧ j ≤ s.size ∧ (∀ i c, i < j → s.toList[i]? = some c → letterB c = true) ∧ wr = w) (fun i _ => s.size - (intOf i).toNat)
  case atStart => exact ⟨0, rfl, Nat.zero_le _, fun i c h => by omega, rfl⟩
  case round =>
    obtain ⟨j, rfl, hj, hall, rfl⟩ := hrel
    have HALL := Lib.hid hall
    have jI : (j : Int) ≤ s.size := by omega
    clear hall
    by_cases hlt : j < s.size
    · have HG := Lib.hid (bl_get s j hlt)
      have HL : Hid (∀ W, Calls Try.prog 33 #[.int .u8 (s[j].toNat : Int)] W fun e w' => e = .returned (.bool (letterB s[j])) ∧ w' = W) := Lib.hid fun W => inWord_any s[j] W
      clear hj
      cases hb : letterB s[j] with
      | true =>
        rw [hb] at HL
        have HB := Lib.hid hb
        clear hb
        go_wp2_with (fail)
        refine (HL.out _).mono ?_
        rintro e w1 ⟨rfl, hw1⟩
        replace hw1 := hw1.symm
        subst hw1
        go_wp2_with (fail)
        refine ⟨⟨j + 1, by go_num, hlt, fun i c hi hc => ?_, by trivial⟩, by simp [intOf]; omega⟩
        by_cases e : i = j
        · subst e
          rw [HG.out] at hc
          injection hc with hc
          rw [← hc]
          exact HB.out
        · exact HALL.out i c (by omega) hc
      | false =>
        rw [hb] at HL
        have HW : Hid ((s.extract 0 j).toList = s.toList.takeWhile letterB) := Lib.hid (by
          rw [ex_toList, tw_at HALL.out HG.out hb, List.drop_zero, Nat.sub_zero])
        clear hb
        go_wp2_with (fail)
        refine (HL.out _).mono ?_
        rintro e w1 ⟨rfl, hw1⟩
        replace hw1 := hw1.symm
        subst hw1
        go_wp2_with (fail)
        go_ret
        exact ⟨_, rfl, HW.out, rfl⟩
    · have HW : Hid (s.toList = s.toList.takeWhile letterB) := Lib.hid (by
        refine (tw_all fun c hc => ?_).symm
        obtain ⟨i, hi, rfl⟩ := List.getElem_of_mem hc
        refine HALL.out i _ ?_ (List.getElem?_eq_getElem hi)
        rw [bl_size] at hi
        omega)
      clear hj
      go_wp2_with (fail)
      go_ret
      exact ⟨_, rfl, HW.out, rfl⟩
set_option maxRecDepth 100000 in
set_option maxHeartbeats 1000000 in
theorem isWord_any (s : ByteArray) (w : World) (hm : s.size ≤ maxLen) :
    Calls Try.prog 16 #[.string s] w fun e w' => e = .returned (.bool (wordB s.toList)) ∧ w' = w := by
  have hsz := bl_size s
  have HC := Lib.hid (wordAt_any s w hm)
  unfold maxLen at hm
  by_cases h1 : s.size = 0
  · have HW : Hid (wordB s.toList = false) := Lib.hid (by rw [word_tw, decide_eq_false (by omega)]; rfl)
    have k1 : s.toList.isEmpty = true := by
      have : s.toList = [] := List.eq_nil_of_length_eq_zero (by omega)
      rw [this]; rfl
    clear h1 hsz hm
    go_enter Try.func16, Try.ntmps16
    go_wp2_with (fail)
    go_ret
    rw [HW.out]
    exact ⟨rfl, rfl⟩
  · have k1 : s.toList.isEmpty = false := by
      cases hl : s.toList with
      | nil => rw [hl] at hsz; simp at hsz; omega
      | cons a l => rfl
    by_cases h2 : 24 < s.size
    · have HW : Hid (wordB s.toList = false) := Lib.hid (by rw [word_tw, decide_eq_false (p := s.toList.length ≤ 24) (by omega), Bool.and_false]; rfl)
      have k2 : decide ((s.size : Int) ≤ 24) = false := decide_eq_false (by omega)
      clear h1 h2 hsz hm
      go_enter Try.func16, Try.ntmps16
      go_wp2_with (fail)
      go_ret
      rw [HW.out]
      exact ⟨rfl, rfl⟩
    · have k2 : decide ((s.size : Int) ≤ 24) = true := decide_eq_true (by omega)
      have HW : Hid (∀ b : ByteArray, b.toList = s.toList.takeWhile letterB → (b.toList == s.toList) = wordB s.toList) := Lib.hid (fun b hb => by
        rw [word_tw, decide_eq_true (p := 1 ≤ s.toList.length) (by omega), decide_eq_true (p := s.toList.length ≤ 24) (by omega), hb, Bool.true_and, Bool.true_and]
        by_cases h : s.toList.takeWhile letterB = s.toList
        · rw [decide_eq_true h, beq_iff_eq]; exact h
        · rw [decide_eq_false h, beq_eq_false_iff_ne]; exact h)
      clear h1 h2 hsz hm
      go_enter Try.func16, Try.ntmps16
      go_wp2_with (fail)
      refine HC.out.mono ?_
      rintro e w1 ⟨b, rfl, hb, hw1⟩
      replace hw1 := hw1.symm
      subst hw1
      replace hb := Lib.hid hb
      go_wp2_with (fail)
      go_ret
      rw [HW.out b hb.out]
      exact ⟨rfl, rfl⟩
def sgT (g : Int) : ByteArray := if g = 0 then ⟨#[61]⟩ else if g = 1 then ⟨#[33, 61]⟩ else if g = 2 then ⟨#[94, 61]⟩ else ⟨#[]⟩
set_option maxRecDepth 100000 in
set_option maxHeartbeats 1000000 in
theorem textOf_any (g : Int) (w : World) : Calls Try.prog 26 #[.int .i64 g] w fun e w' => e = .returned (.string (sgT g)) ∧ w' = w := by
  unfold sgT
  by_cases h0 : g = 0
  · subst h0
    rw [if_pos rfl]
    go_enter Try.func26, Try.ntmps26
    go_wp2_with (fail)
    go_ret
    exact ⟨rfl, rfl⟩
  · rw [if_neg h0]
    by_cases h1 : g = 1
    · subst h1
      rw [if_pos rfl]
      go_enter Try.func26, Try.ntmps26
      go_wp2_with (fail)
      go_ret
      exact ⟨rfl, rfl⟩
    · rw [if_neg h1]
      by_cases h2 : g = 2
      · subst h2
        rw [if_pos rfl]
        go_enter Try.func26, Try.ntmps26
        go_wp2_with (fail)
        go_ret
        exact ⟨rfl, rfl⟩
      · rw [if_neg h2]
        have e0 : (g == 0) = false := by rw [beq_eq_false_iff_ne]; exact h0
        have e1 : (g == 1) = false := by rw [beq_eq_false_iff_ne]; exact h1
        have e2 : (g == 2) = false := by rw [beq_eq_false_iff_ne]; exact h2
        clear h0 h1 h2
        go_enter Try.func26, Try.ntmps26
        go_wp2_with (fail)
        go_ret
        exact ⟨rfl, rfl⟩
def preB (p s : ByteArray) : Bool := p.toList.isPrefixOf s.toList
theorem preB_raw (p s : ByteArray) : preB p s = (decide (p.size ≤ s.size) && ((s.extract 0 p.size).toList == p.toList)) := by
  unfold preB
  rw [Bool.eq_iff_iff, List.isPrefixOf_iff_prefix, ex_toList, List.drop_zero, Nat.sub_zero, ← bl_size p, ← bl_size s, Bool.and_eq_true, decide_eq_true_eq, beq_iff_eq, List.prefix_iff_eq_take]
  constructor
  · intro h
    refine ⟨?_, h.symm⟩
    have := congrArg List.length h
    rw [List.length_take] at this
    omega
  · exact fun h => h.2.symm
set_option maxRecDepth 100000 in
set_option maxHeartbeats 1000000 in
theorem hasPre0_any (s p : ByteArray) (w : World) : Calls Try.prog 38 #[.string s, .string p] w fun e w' => e = .returned (.bool (preB p s)) ∧ w' = w := by
  have hraw := preB_raw p s
  by_cases h : p.size ≤ s.size
  · have HR : Hid (preB p s = ((s.extract 0 p.size).toList == p.toList)) := Lib.hid (by rw [hraw, decide_eq_true h, Bool.true_and])
    have k1 : decide ((p.size : Int) ≤ s.size) = true := decide_eq_true (by omega)
    have hI : (p.size : Int) ≤ s.size := by omega
    clear hraw
    go_enter Try.func38, Try.ntmps38
    go_wp2_with (fail)
    go_ret
    rw [HR.out]
    exact ⟨rfl, rfl⟩
  · have HR : Hid (preB p s = false) := Lib.hid (by rw [hraw, decide_eq_false h]; rfl)
    have k1 : decide ((p.size : Int) ≤ s.size) = false := decide_eq_false (by omega)
    clear hraw
    go_enter Try.func38, Try.ntmps38
    go_wp2_with (fail)
    go_ret
    rw [HR.out]
    exact ⟨rfl, rfl⟩
set_option maxRecDepth 100000 in
theorem hasPre_any (s p : ByteArray) (w : World) : Calls Try.prog 29 #[.string s, .string p] w fun e w' => e = .returned (.bool (preB p s)) ∧ w' = w := by
  have HX := Lib.hid (hasPre0_any s p w)
  go_enter Try.func29, Try.ntmps29
  go_wp2_with (fail)
  refine HX.out.mono ?_
  rintro e w1 ⟨rfl, hw1⟩
  replace hw1 := hw1.symm
  subst hw1
  go_wp2_with (fail)
  go_ret
  exact ⟨rfl, rfl⟩
/-- What is left behind a beginning. -/
def cutS (s p : ByteArray) : ByteArray := if preB p s = true then s.extract p.size s.size else s
theorem cutS_yes {s p : ByteArray} (h : preB p s = true) : s.toList = p.toList ++ (cutS s p).toList := by
  unfold cutS
  rw [if_pos h]
  unfold preB at h
  rw [List.isPrefixOf_iff_prefix] at h
  obtain ⟨r, hr⟩ := h
  have h1 : p.size = p.toList.length := (bl_size p).symm
  have h2 := congrArg List.length hr
  rw [bl_size, List.length_append] at h2
  rw [ex_toList, ← hr, h1, List.drop_left, List.take_of_length_le (by omega)]
theorem cutS_no {s p : ByteArray} (h : preB p s = false) : cutS s p = s := by
  unfold cutS
  rw [h]
  rfl
theorem cutS_size (s p : ByteArray) : (cutS s p).size ≤ s.size := by
  cases h : preB p s with
  | false => rw [cutS_no h]; exact Nat.le_refl _
  | true =>
    have h1 := congrArg List.length (cutS_yes h)
    rw [List.length_append, bl_size, bl_size, bl_size] at h1
    omega
set_option maxRecDepth 100000 in
set_option maxHeartbeats 1000000 in
theorem cutPre_any (s p : ByteArray) (w : World) : Calls Try.prog 34 #[.string s, .string p] w fun e w' => e = .returned (.tuple #[.string (cutS s p), .bool (preB p s)]) ∧ w' = w := by
  have hx : Calls Try.prog 42 #[.string s, .string p] w fun e w' => e = .returned (.tuple #[.string (cutS s p), .bool (preB p s)]) ∧ w' = w := by
    have h0 := hasPre0_any s p w
    have hraw := preB_raw p s
    unfold cutS
    cases hb : preB p s with
    | true =>
      rw [hb] at h0 hraw
      have hle : p.size ≤ s.size := by
        have := hraw.symm
        rw [Bool.and_eq_true, decide_eq_true_eq] at this
        exact this.1
      have hI : (p.size : Int) ≤ s.size := by omega
      have HX := Lib.hid h0
      clear hb h0 hraw
      rw [if_pos rfl]
      go_enter Try.func42, Try.ntmps42
      go_wp2_with (fail)
      refine HX.out.mono ?_
      rintro e w1 ⟨rfl, hw1⟩
      replace hw1 := hw1.symm
      subst hw1
      go_wp2_with (fail)
      go_ret2
      exact ⟨rfl, rfl⟩
    | false =>
      rw [hb] at h0
      have HX := Lib.hid h0
      clear hb h0 hraw
      rw [if_neg Bool.false_ne_true]
      go_enter Try.func42, Try.ntmps42
      go_wp2_with (fail)
      refine HX.out.mono ?_
      rintro e w1 ⟨rfl, hw1⟩
      replace hw1 := hw1.symm
      subst hw1
      go_wp2_with (fail)
      go_ret2
      exact ⟨rfl, rfl⟩
  have HX := Lib.hid hx
  clear hx
  go_enter Try.func34, Try.ntmps34
  go_wp2_with (fail)
  refine HX.out.mono ?_
  rintro e w1 ⟨rfl, hw1⟩
  replace hw1 := hw1.symm
  subst hw1
  go_wp2_with (fail)
  go_ret2
  exact ⟨rfl, rfl⟩
end Go.Proofs.Ytckgpocfcanokaa
