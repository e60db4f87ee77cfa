/- slices.IndexFunc, ContainsFunc at questions and at labels, over what the function handed to them answers; slices.Index, Contains at labels. Condition: at most 20 of them. -/
import Derived.Test.YtckgpocfcanokaaLbRow
import Derived.Test.YtckgpocfcanokaaLbWrd
import Derived.BigQuiet
import Derived.Laws.StructEq
namespace Go.Proofs.Ytckgpocfcanokaa
open Go.RowKit

set_option maxRecDepth 100000 in
set_option maxHeartbeats 2000000 in
theorem ixq_any (A : Option Addr) (c X : Nat) (qs : List Qu) (b : Qu → Bool) (w : World) (hr : RsQu w (.slice A qs.length c) qs) (hl : qs.length ≤ 20)
    (hF : ∀ (W : World) (q : Qu), q ∈ qs → Below w.heap.size w W → Calls Try.prog 21 #[.agg #[.string q.n, .int .i64 q.g, .string q.v], .pointer (some ⟨X, 0, none⟩)] W fun e w' => e = .returned (.bool (b q)) ∧ Below W.heap.size W w') :
    Calls Try.prog 32 #[.slice A qs.length c, .func (.func 21) #[] #[.pointer (some ⟨X, 0, none⟩)]] w fun e w' => ∃ k : Int, e = .returned (.int .i64 k) ∧ decide (0 ≤ k) = qs.any b ∧ Below w.heap.size w w' := by
  have HR := Lib.hid hr
  have HL := Lib.hid hl
  have HF := Lib.hid hF
  have pI : (qs.length : Int) ≤ 20 := by omega
  clear hr hl hF
  go_enter Try.func32, Try.ntmps32
  go_wp2_with (fail)
  go_loopw [8] (fun i wr => ∃ j : Nat, i = .int .i64 (j : Int) ∧ j ≤ qs.length ∧ (∀ i q, i < j → qs[i]? = some q → b q = false) ∧ Below w.heap.size w wr) (fun i _ => qs.length - (intOf i).toNat)
  case atStart => exact ⟨0, rfl, Nat.zero_le _, fun i q h => by omega, Below.refl _ _⟩
  case round =>
    obtain ⟨j, rfl, hj, hall, hb⟩ := hrel
    have HALL := Lib.hid hall
    have HB := Lib.hid hb
    clear hall hb
    by_cases hlt : j < qs.length
    · have jI : (j : Int) < qs.length := by omega
      have HLT := Lib.hid hlt
      obtain ⟨q, hq⟩ : ∃ q, qs[j]? = some q := ⟨_, List.getElem?_eq_getElem hlt⟩
      have HQ := Lib.hid hq
      obtain ⟨g, o, rfl⟩ := HR.out.addr hq
      have hgl : g < w.heap.size := by
        obtain ⟨g', o', he, h, _⟩ := HR.out.row.at' (i := j) (r := quV q) (by rw [List.getElem?_map, hq]; rfl)
        injection he with he
        injection he with he _ _
        rw [he]
        exact h
      obtain ⟨_, q0, q1, q2⟩ := HR.out.cells hq
      have b0 : wr.cell? ⟨g, o + j * 3, none⟩ = some (.string q.n) := by rw [HB.out.cell (p := ⟨g, o + j * 3, none⟩) hgl]; exact q0
      have b1 : wr.cell? ⟨g, o + j * 3 + 1, none⟩ = some (.int .i64 q.g) := by rw [HB.out.cell (p := ⟨g, o + j * 3 + 1, none⟩) hgl]; exact q1
      have b2 : wr.cell? ⟨g, o + j * 3 + 2, none⟩ = some (.string q.v) := by rw [HB.out.cell (p := ⟨g, o + j * 3 + 2, none⟩) hgl]; exact q2
      have HC := Lib.hid (HF.out wr q (List.mem_of_getElem? hq) HB.out)
      clear hgl q0 q1 q2 hq hj hlt
      go_wp2_with (fail)
      refine HC.out.mono ?_
      rintro e w1 ⟨rfl, hb1⟩
      have HB1 := Lib.hid (HB.out.trans (hb1.mono HB.out.size))
      clear hb1 HC
      obtain ⟨k, hk⟩ : ∃ k, k = b q := ⟨_, rfl⟩
      have HK := Lib.hid hk
      rw [← hk]
      clear hk
      cases k with
      | true =>
        have HA : Hid (decide ((0 : Int) ≤ (j : Int)) = qs.any b) := Lib.hid (by
          rw [decide_eq_true (by omega)]
          exact (List.any_eq_true.2 ⟨q, List.mem_of_getElem? HQ.out, HK.out.symm⟩).symm)
        go_wp2_with (fail)
        go_ret
        exact ⟨(j : Int), rfl, HA.out, HB1.out⟩
      | false =>
        go_wp2_with (fail)
        have hlt := HLT.out
        refine ⟨⟨j + 1, by go_num, hlt, fun i p hi hp => ?_, HB1.out⟩, by simp [intOf]; omega⟩
        by_cases e : i = j
        · subst e
          rw [HQ.out] at hp
          injection hp with hp
          rw [← hp]
          exact HK.out.symm
        · exact HALL.out i p (by omega) hp
    · have HA : Hid (decide ((0 : Int) ≤ -1) = qs.any b) := Lib.hid (by
        rw [decide_eq_false (by omega)]
        refine (List.any_eq_false.2 fun q hq => ?_).symm
        obtain ⟨i, hi, rfl⟩ := List.getElem_of_mem hq
        rw [HALL.out i _ (by omega) (List.getElem?_eq_getElem hi)]
        exact Bool.false_ne_true)
      have k1 : decide ((j : Int) < qs.length) = false := decide_eq_false (by omega)
      have k2 : decide (j < qs.length) = false := decide_eq_false hlt
      clear hj hlt
      go_wp2_with (fail)
      go_ret
      exact ⟨-1, rfl, HA.out, HB.out⟩
set_option maxRecDepth 100000 in
set_option maxHeartbeats 1000000 in
theorem coq_any (A : Option Addr) (c X : Nat) (qs : List Qu) (b : Qu → Bool) (w : World) (hr : RsQu w (.slice A qs.length c) qs) (hl : qs.length ≤ 20)
    (hF : ∀ (W : World) (q : Qu), q ∈ qs → Below w.heap.size w W → Calls Try.prog 21 #[.agg #[.string q.n, .int .i64 q.g, .string q.v], .pointer (some ⟨X, 0, none⟩)] W fun e w' => e = .returned (.bool (b q)) ∧ Below W.heap.size W w') :
    Calls Try.prog 23 #[.slice A qs.length c, .func (.func 21) #[] #[.pointer (some ⟨X, 0, none⟩)]] w fun e w' => e = .returned (.bool (qs.any b)) ∧ Below w.heap.size w w' := by
  have HX := Lib.hid (ixq_any A c X qs b w hr hl hF)
  clear hr hl hF
  go_enter Try.func23, Try.ntmps23
  go_wp2_with (fail)
  refine HX.out.mono ?_
  rintro e w1 ⟨k, rfl, hk, hb⟩
  have HK := Lib.hid hk
  have HB := Lib.hid hb
  clear hk hb
  go_wp2_with (fail)
  go_ret
  rw [← HK.out]
  exact ⟨rfl, HB.out⟩
set_option maxRecDepth 100000 in
set_option maxHeartbeats 2000000 in
theorem ixl_any (A : Option Addr) (c X : Nat) (qs : List Qu) (b : Qu → Bool) (w : World) (hr : RsLb w (.slice A qs.length c) qs) (hl : qs.length ≤ 20)
    (hF : ∀ (W : World) (q : Qu), q ∈ qs → Below w.heap.size w W → Calls Try.prog 28 #[.agg #[.string q.n, .string q.v], .pointer (some ⟨X, 0, none⟩)] W fun e w' => e = .returned (.bool (b q)) ∧ Below W.heap.size W w') :
    Calls Try.prog 40 #[.slice A qs.length c, .func (.func 28) #[] #[.pointer (some ⟨X, 0, none⟩)]] w fun e w' => ∃ k : Int, e = .returned (.int .i64 k) ∧ decide (0 ≤ k) = qs.any b ∧ Below w.heap.size w w' := by
  have HR := Lib.hid hr
  have HL := Lib.hid hl
  have HF := Lib.hid hF
  have pI : (qs.length : Int) ≤ 20 := by omega
  clear hr hl hF
  go_enter Try.func40, Try.ntmps40
  go_wp2_with (fail)
  go_loopw [8] (fun i wr => ∃ j : Nat, i = .int .i64 (j : Int) ∧ j ≤ qs.length ∧ (∀ i q, i < j → qs[i]? = some q → b q = false) ∧ Below w.heap.size w wr) (fun i _ => qs.length - (intOf i).toNat)
  case atStart => exact ⟨0, rfl, Nat.zero_le _, fun i q h => by omega, Below.refl _ _⟩
  case round =>
    obtain ⟨j, rfl, hj, hall, hb⟩ := hrel
    have HALL := Lib.hid hall
    have HB := Lib.hid hb
    clear hall hb
    by_cases hlt : j < qs.length
    · have jI : (j : Int) < qs.length := by omega
      have HLT := Lib.hid hlt
      obtain ⟨q, hq⟩ : ∃ q, qs[j]? = some q := ⟨_, List.getElem?_eq_getElem hlt⟩
      have HQ := Lib.hid hq
      obtain ⟨g, o, rfl⟩ := HR.out.addr hq
      have hgl : g < w.heap.size := by
        obtain ⟨g', o', he, h, _⟩ := HR.out.row.at' (i := j) (r := lbV q) (by rw [List.getElem?_map, hq]; rfl)
        injection he with he
        injection he with he _ _
        rw [he]
        exact h
      obtain ⟨_, q0, q1⟩ := HR.out.cells hq
      have b0 : wr.cell? ⟨g, o + j * 2, none⟩ = some (.string q.n) := by rw [HB.out.cell (p := ⟨g, o + j * 2, none⟩) hgl]; exact q0
      have b1 : wr.cell? ⟨g, o + j * 2 + 1, none⟩ = some (.string q.v) := by rw [HB.out.cell (p := ⟨g, o + j * 2 + 1, none⟩) hgl]; exact q1
      have HC := Lib.hid (HF.out wr q (List.mem_of_getElem? hq) HB.out)
      clear hgl q0 q1 hq hj hlt
      go_wp2_with (fail)
      refine HC.out.mono ?_
      rintro e w1 ⟨rfl, hb1⟩
      have HB1 := Lib.hid (HB.out.trans (hb1.mono HB.out.size))
      clear hb1 HC
      obtain ⟨k, hk⟩ : ∃ k, k = b q := ⟨_, rfl⟩
      have HK := Lib.hid hk
      rw [← hk]
      clear hk
      cases k with
      | true =>
        have HA : Hid (decide ((0 : Int) ≤ (j : Int)) = qs.any b) := Lib.hid (by
          rw [decide_eq_true (by omega)]
          exact (List.any_eq_true.2 ⟨q, List.mem_of_getElem? HQ.out, HK.out.symm⟩).symm)
        go_wp2_with (fail)
        go_ret
        exact ⟨(j : Int), rfl, HA.out, HB1.out⟩
      | false =>
        go_wp2_with (fail)
        have hlt := HLT.out
        refine ⟨⟨j + 1, by go_num, hlt, fun i p hi hp => ?_, HB1.out⟩, by simp [intOf]; omega⟩
        by_cases e : i = j
        · subst e
          rw [HQ.out] at hp
          injection hp with hp
          rw [← hp]
          exact HK.out.symm
        · exact HALL.out i p (by omega) hp
    · have HA : Hid (decide ((0 : Int) ≤ -1) = qs.any b) := Lib.hid (by
        rw [decide_eq_false (by omega)]
        refine (List.any_eq_false.2 fun q hq => ?_).symm
        obtain ⟨i, hi, rfl⟩ := List.getElem_of_mem hq
        rw [HALL.out i _ (by omega) (List.getElem?_eq_getElem hi)]
        exact Bool.false_ne_true)
      have k1 : decide ((j : Int) < qs.length) = false := decide_eq_false (by omega)
      have k2 : decide (j < qs.length) = false := decide_eq_false hlt
      clear hj hlt
      go_wp2_with (fail)
      go_ret
      exact ⟨-1, rfl, HA.out, HB.out⟩
set_option maxRecDepth 100000 in
set_option maxHeartbeats 1000000 in
theorem col_any (A : Option Addr) (c X : Nat) (qs : List Qu) (b : Qu → Bool) (w : World) (hr : RsLb w (.slice A qs.length c) qs) (hl : qs.length ≤ 20)
    (hF : ∀ (W : World) (q : Qu), q ∈ qs → Below w.heap.size w W → Calls Try.prog 28 #[.agg #[.string q.n, .string q.v], .pointer (some ⟨X, 0, none⟩)] W fun e w' => e = .returned (.bool (b q)) ∧ Below W.heap.size W w') :
    Calls Try.prog 31 #[.slice A qs.length c, .func (.func 28) #[] #[.pointer (some ⟨X, 0, none⟩)]] w fun e w' => e = .returned (.bool (qs.any b)) ∧ Below w.heap.size w w' := by
  have HX := Lib.hid (ixl_any A c X qs b w hr hl hF)
  clear hr hl hF
  go_enter Try.func31, Try.ntmps31
  go_wp2_with (fail)
  refine HX.out.mono ?_
  rintro e w1 ⟨k, rfl, hk, hb⟩
  have HK := Lib.hid hk
  have HB := Lib.hid hb
  clear hk hb
  go_wp2_with (fail)
  go_ret
  rw [← HK.out]
  exact ⟨rfl, HB.out⟩
end Go.Proofs.Ytckgpocfcanokaa
