/- The contract of the developers' polynomial: the coefficients that count. Conditions: a secret's byte, t and the draws at most 1000. -/
import Derived.Test.YtpegnafapjcanaaShamC
import Derived.Test.YtpegnafapjcanaaSRefA
import Derived.Test.YtpegnafapjcanaaFieldK
namespace Go.Proofs.Ytpegnafapjcanaa
open Go.RowKit

/-- The coefficients, of which j are draws. -/
def polJ (c : UInt8) (i : Nat) (draws : List UInt8) (j : Nat) : List UInt8 := c :: (List.range j).map fun k => draws.getD (32 * k + i) 0
theorem polJ_length (c : UInt8) (i : Nat) (draws : List UInt8) (j : Nat) : (polJ c i draws j).length = j + 1 := by simp [polJ]
theorem polJ_succ (c : UInt8) (i : Nat) (draws : List UInt8) (j : Nat) : polJ c i draws (j + 1) = polJ c i draws j ++ [draws.getD (32 * j + i) 0] := by
  unfold polJ
  rw [List.range_succ, List.map_append]
  rfl
theorem geP_congr {l l' : List UInt8} (x : Nat) : ∀ n, (∀ k, k < n → l.getD k 0 = l'.getD k 0) → geP l x n = geP l' x n
  | 0, _ => rfl
  | n + 1, h => by
    show geP l x n ^^^ gmul ((l.getD n 0).toNat) (gpow x n) = geP l' x n ^^^ gmul ((l'.getD n 0).toNat) (gpow x n)
    rw [h n (by omega), geP_congr x n fun k hk => h k (by omega)]
theorem polJ_geval (sec : List UInt8) (t : Nat) (draws : List UInt8) (i j x : Nat) (h : j + 1 ≤ t) (hs : t ≤ j + 1 ∨ draws.length ≤ 32 * j + i) : geval (polJ (sec.getD i 0) i draws j) x = geval (polL sec t draws i) x := by
  unfold geval
  rw [polJ_length, polL_length sec (by omega) draws i]
  have e1 : geP (polL sec t draws i) x t = geP (polL sec t draws i) x (j + 1) := by
    obtain ⟨n, hn⟩ : ∃ n, t = j + 1 + n := ⟨t - (j + 1), by omega⟩
    rw [hn]
    refine geP_stop _ x n fun k h1 h2 => ?_
    obtain ⟨q, rfl⟩ : ∃ q, k = q + 1 := ⟨k - 1, by omega⟩
    rw [polL_succ sec (by omega) draws i, List.getD, List.getElem?_eq_none (by omega)]
    rfl
  rw [e1]
  refine geP_congr x _ fun k hk => ?_
  rcases Nat.eq_zero_or_pos k with rfl | h0
  · rfl
  · obtain ⟨q, rfl⟩ : ∃ q, k = q + 1 := ⟨k - 1, by omega⟩
    rw [polL_succ sec (by omega) draws i]
    unfold polJ
    rw [List.getD_cons_succ]
    exact range_getD _ _ (by omega)
def PolRel (c : UInt8) (i t : Nat) (draws : List UInt8) (w : World) (s v : Value) (W : World) : Prop := ∃ j : Nat, v = .int .i64 ((32 * j + i : Nat) : Int) ∧ j + 1 ≤ t ∧ 32 * j + i ≤ draws.length + 31 ∧ W.ownsRow w.heap.size 5 1 s (j + 1) ((polJ c i draws j).map bv) ∧ Below w.heap.size w W
set_option maxRecDepth 100000 in
set_option maxHeartbeats 2000000 in
theorem poly_any (sec : List UInt8) (i t : Nat) (v : Value) (draws : List UInt8) (w : World) (hi : i < 32) (ht : 1 ≤ t) (ht2 : t ≤ 1000) (hr : Rd w v draws) (hl : draws.length ≤ 1000) :
    Calls Try.prog 26 #[.int .u8 ((sec.getD i 0).toNat : Int), .int .i64 (i : Int), .int .i64 (t : Int), v] w fun e w' => ∃ s, e = .returned s ∧ ∃ l, Rd w' s l ∧ l.length ≤ 1000 ∧ (∀ x, geval l x = geval (polL sec t draws i) x) ∧ (∀ k, s.ownBlock = some k → w.heap.size ≤ k) ∧ Below w.heap.size w w' := by
  obtain ⟨A, cd, rfl, hc1, hc2, hA⟩ := hr.form
  have HA := Lib.hid hA
  obtain ⟨i0, hi0, hz0, hz1, hz2⟩ := info_parts info_u8
  have lI : (draws.length : Int) ≤ 1000 := by omega
  have tI : (t : Int) ≤ 1000 := by omega
  have iI : (i : Int) < 32 := by omega
  unfold maxLen at hc2
  obtain ⟨c, hc⟩ : ∃ c, c = sec.getD i 0 := ⟨_, rfl⟩
  have HG : Hid (∀ j x, j + 1 ≤ t → t ≤ j + 1 ∨ draws.length ≤ 32 * j + i → geval (polJ c i draws j) x = geval (polL sec t draws i) x) := Lib.hid fun j x h1 h2 => by rw [hc]; exact polJ_geval sec t draws i j x h1 h2
  rw [← hc]
  obtain ⟨W0, hW0⟩ : ∃ W : World, W = w.alloc (.cells #[.int .u8 (c.toNat : Int)] 5) := ⟨_, rfl⟩
  have O0 : Hid (W0.ownsRow w.heap.size 5 1 (.slice (some ⟨w.heap.size, 0, none⟩) 1 1) 1 ((polJ c i draws 0).map bv)) := Lib.hid (by rw [hW0]; exact own_lit1 rfl (Nat.le_refl _))
  have D0 : Hid (Below w.heap.size w W0) := Lib.hid (by rw [hW0]; exact (Below.refl _ _).alloc (Nat.le_refl _) _)
  have HI := Lib.hid hi
  have HT := Lib.hid ht
  have HL := Lib.hid hl
  clear hA hr hi ht hc hl ht2
  go_enter Try.func26, Try.ntmps26
  go_wp2_with (fail)
  rw [← hW0]
  clear hW0
  go_loopw [9, 10] (fun s v wx => PolRel c i t draws w s v wx) (fun _ v _ => draws.length + 32 - (intOf v).toNat)
  case atStart => exact ⟨0, by go_num, HT.out, by have := HI.out; omega, O0.out, D0.out⟩
  case round =>
    obtain ⟨j, rfl, hj, hj2, own, bl⟩ := hrel
    obtain ⟨k, hk⟩ : ∃ k, k = 32 * j + i := ⟨_, rfl⟩
    have jI : (j : Int) + 1 ≤ t := by omega
    have kI : (k : Int) ≤ draws.length + 31 := by omega
    obtain ⟨g, cs, rfl, hg1, hg2⟩ := own_form own (by omega)
    rw [← hk]
    have HK := Lib.hid hk
    have OW := Lib.hid own
    have BL := Lib.hid bl
    have HJ := Lib.hid hj
    have HJ2 := Lib.hid hj2
    clear own bl hj hj2 hk
    by_cases hlt : k < draws.length
    · have hI : (k : Int) < draws.length := by omega
      by_cases hlt2 : j + 1 < t
      · have hI2 : (j : Int) + 1 < t := by omega
        obtain ⟨b, off, rfl, hb1, hb3⟩ := HA.out (by omega)
        obtain ⟨y, hy⟩ : ∃ y, y = draws.getD (32 * j + i) 0 := ⟨_, rfl⟩
        have c1 : wr.cell? ⟨b, off + k, none⟩ = some (.int .u8 (y.toNat : Int)) := by
          rw [BL.out.cell (p := ⟨b, off + k, none⟩) hb1, hb3 k hlt, hy, ← HK.out, List.getD, List.getElem?_eq_getElem hlt]
          rfl
        have HY := Lib.hid hy
        have qs : w.heap.size ≤ wr.heap.size := BL.out.size
        have qm : Hid (j + 1 + 1 ≤ maxLen) := Lib.hid (by unfold maxLen; have := HJ.out; omega)
        have qb : Hid ((j + 1 + 1) * 1 ≤ 140737488355328) := Lib.hid (by have := HJ.out; omega)
        clear hb1 hb3 hy
        go_wp2_with (at_builtin
                     refine wpList_append_one _ _ _ rfl _ _ _ rfl w.heap.size 5 i0 _ 1 Try.underlying24 hi0 hz0 hz1 hz2 rfl rfl _ (j + 1) _ rfl OW.out rfl qm.out qb.out qs ?_
                     intro v2 w2 own2 b2)
        have hk := HK.out
        refine ⟨⟨j + 1, by go_num, by omega, by omega, ?_, BL.out.trans b2⟩, by simp [intOf]; omega⟩
        rw [polJ_succ, List.map_append, ← HY.out]
        exact own2
      · have hI2 : ¬ (j : Int) + 1 < t := by omega
        go_wp2_with (fail)
        go_ret
        exact ⟨_, rfl, _, Rd.of_own OW.out, by rw [polJ_length]; have := HJ.out; omega, fun x => HG.out j x HJ.out (.inl (by omega)), own_ge OW.out, BL.out⟩
    · have hI : ¬ (k : Int) < draws.length := by omega
      go_wp2_with (fail)
      go_ret
      exact ⟨_, rfl, _, Rd.of_own OW.out, by rw [polJ_length]; have := HJ.out; omega, fun x => HG.out j x HJ.out (.inr (by have := HK.out; omega)), own_ge OW.out, BL.out⟩
end Go.Proofs.Ytpegnafapjcanaa
