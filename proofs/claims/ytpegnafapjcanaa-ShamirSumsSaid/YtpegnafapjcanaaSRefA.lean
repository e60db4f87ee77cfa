/- The eighth reference's Share: its two loops: over a byte's coefficients, over the bytes. Conditions: a byte, t and the draws at most 1000. -/
import Derived.Test.YtpegnafapjcanaaFRefM
import Derived.Test.YtpegnafapjcanaaFEval
import Derived.Test.YtpegnafapjcanaaShSpec
import Derived.Test.YtpegnafapjcanaaPutC
import Derived.Test.YtpegnafapjcanaaBlk
namespace Go.Proofs.Ytpegnafapjcanaa
open Go.RowKit

theorem polL_zero (sec : List UInt8) (t : Nat) (draws : List UInt8) (i : Nat) : (polL sec t draws i).getD 0 0 = sec.getD i 0 := rfl
theorem polL_succ (sec : List UInt8) {t j : Nat} (h : j + 1 < t) (draws : List UInt8) (i : Nat) : (polL sec t draws i).getD (j + 1) 0 = draws.getD (32 * j + i) 0 := by
  unfold polL
  rw [List.getD_cons_succ]
  exact range_getD _ _ (by omega)
/-- Behind the draws there is nothing to be added. -/
theorem geP_stop (l : List UInt8) (x : Nat) {j : Nat} : ∀ n, (∀ k, j ≤ k → k < j + n → l.getD k 0 = 0) → geP l x (j + n) = geP l x j
  | 0, _ => rfl
  | n + 1, h => by
    show geP l x (j + n) ^^^ gmul ((l.getD (j + n) 0).toNat) (gpow x (j + n)) = _
    rw [h (j + n) (by omega) (by omega), geP_stop l x n fun k h1 h2 => h k h1 (by omega)]
    show geP l x j ^^^ gmul 0 _ = _
    rw [zero_gmul, Nat.xor_zero]
def ShjRel (l : List UInt8) (x t : Nat) (w : World) (s v : Value) (W : World) : Prop := ∃ j m : Nat, v = .int .i64 ((j + 1 : Nat) : Int) ∧ j + 1 ≤ t ∧ s = .int .u8 (geP l x (j + 1) : Nat) ∧ W = w.drewN m
noncomputable def body_shj : Code := (((Try.f10.body.map loopsOf).getD [])[1]?).getD .skip
set_option maxRecDepth 100000 in
set_option maxHeartbeats 2000000 in
theorem shj_loop (c0 c4 c5 c6 c7 c8 c9 c13 c14 c15 c16 c17 c18 c19 c20 c21 c22 c23 c24 c25 c26 c27 c28 c29 c30 c31 c32 c33 c34 c35 c36 c37 c38 c39 c40 c41 c42 c43 c44 c45 c46 c47 c48 c49 c50 c51 c52 c53 c54 c55 : Value) (x t i cd : Nat) (Ad : Option Addr) (sec draws : List UInt8) (w : World) (hx : x < 256) (ht : 1 ≤ t) (ht2 : t ≤ 1000) (hi : i < 32) (hl : draws.length ≤ 1000) (hr : Hid (Rd w (.slice Ad draws.length cd) draws)) {Q : Exit → Act → World → Prop}
    (HQ : Hid (∀ (u12 u22 u23 u24 u25 u26 u27 u28 u29 u30 u31 u32 u33 u34 u35 u36 u37 u38 u39 u40 u41 u42 u43 u44 u45 u46 u47 u48 u49 u50 : Value) (m : Nat), Q (.exit 2) ⟨List.toArray (c0 :: (.int .u8 (x : Int)) :: (.int .i64 (t : Int)) :: (.slice Ad draws.length cd) :: c4 :: c5 :: c6 :: c7 :: c8 :: c9 :: (.int .i64 (i : Int)) :: (.int .u8 (geval (polL sec t draws i) x : Nat)) :: u12 :: c13 :: c14 :: c15 :: c16 :: c17 :: c18 :: c19 :: c20 :: c21 :: u22 :: u23 :: u24 :: u25 :: u26 :: u27 :: u28 :: u29 :: u30 :: u31 :: u32 :: u33 :: u34 :: u35 :: u36 :: u37 :: u38 :: u39 :: u40 :: u41 :: u42 :: u43 :: u44 :: u45 :: u46 :: u47 :: u48 :: u49 :: u50 :: c51 :: c52 :: c53 :: c54 :: c55 :: []), []⟩ (w.drewN m))) :
    (Code.loop body_shj).wp Try.prog Q ⟨List.toArray (c0 :: (.int .u8 (x : Int)) :: (.int .i64 (t : Int)) :: (.slice Ad draws.length cd) :: c4 :: c5 :: c6 :: c7 :: c8 :: c9 :: (.int .i64 (i : Int)) :: (.int .u8 ((sec.getD i 0).toNat : Int)) :: (.int .i64 1) :: c13 :: c14 :: c15 :: c16 :: c17 :: c18 :: c19 :: c20 :: c21 :: c22 :: c23 :: c24 :: c25 :: c26 :: c27 :: c28 :: c29 :: c30 :: c31 :: c32 :: c33 :: c34 :: c35 :: c36 :: c37 :: c38 :: c39 :: c40 :: c41 :: c42 :: c43 :: c44 :: c45 :: c46 :: c47 :: c48 :: c49 :: c50 :: c51 :: c52 :: c53 :: c54 :: c55 :: []), []⟩ w := by
  obtain ⟨A, c, he, hc1, hc2, hA⟩ := hr.out.form
  obtain ⟨rfl, _, rfl⟩ : Ad = A ∧ draws.length = draws.length ∧ cd = c := by simpa using he
  have HA := Lib.hid hA
  unfold maxLen at hc2
  have lI : (draws.length : Int) ≤ 1000 := by omega
  have tI : (t : Int) ≤ 1000 := by omega
  have iI : (i : Int) < 32 := by omega
  have xI : (x : Int) < 256 := by omega
  have HI := Lib.hid hi
  have HT := Lib.hid ht
  have HPL : Hid ((polL sec t draws i).length = t) := Lib.hid (polL_length sec ht draws i)
  obtain ⟨pl, hpl⟩ : ∃ pl, pl = polL sec t draws i := ⟨_, rfl⟩
  have HPS : Hid (∀ j, j + 1 < t → pl.getD (j + 1) 0 = draws.getD (32 * j + i) 0) := Lib.hid fun j hj => by rw [hpl]; exact polL_succ sec hj draws i
  have HP0 : Hid (geP pl x 1 = (sec.getD i 0).toNat) := Lib.hid (by
    show 0 ^^^ gmul ((pl.getD 0 0).toNat) 1 = _
    rw [gmul_one (UInt8.toNat_lt _), Nat.zero_xor, hpl]
    rfl)
  rw [← hpl] at HQ HPL
  clear hA he hi ht hpl
  unfold body_shj
  conv => arg 2; arg 1; whnf
  go_loopw [11, 12] (fun s v wx => ShjRel pl x t w s v wx) (fun _ v _ => t - (intOf v).toNat)
  case atStart => exact ⟨0, 0, rfl, HT.out, by rw [HP0.out], rfl⟩
  case round =>
    obtain ⟨j, m0, rfl, hj, rfl, rfl⟩ := hrel
    have hstop : (t ≤ j + 1 ∨ draws.length ≤ 32 * j + i) → geP pl x (j + 1) = geval pl x := fun h => by
      unfold geval
      rw [HPL.out]
      obtain ⟨n, hn⟩ : ∃ n, t = j + 1 + n := ⟨t - (j + 1), by omega⟩
      rw [hn]
      refine (geP_stop pl x n fun k h1 h2 => ?_).symm
      obtain ⟨q, rfl⟩ : ∃ q, k = q + 1 := ⟨k - 1, by omega⟩
      rw [HPS.out q (by omega), List.getD, List.getElem?_eq_none (by omega)]
      rfl
    by_cases hlt : j + 1 < t
    · have hI : (j : Int) + 1 < t := by omega
      have e1 : IntKind.i64.wrap ((j : Int) + 1 - 1) = (j : Int) := by rw [show (j : Int) + 1 - 1 = j by omega]; exact IntWalk.i64_in _ (by omega)
      have e2 : IntKind.i64.wrap (32 * (j : Int)) = 32 * (j : Int) := IntWalk.i64_in _ (by omega)
      have e3 : IntKind.i64.wrap (32 * (j : Int) + i) = 32 * (j : Int) + i := IntWalk.i64_in _ (by omega)
      by_cases hlt2 : 32 * j + i < draws.length
      · have hI2 : 32 * (j : Int) + i < draws.length := by omega
        obtain ⟨b, off, rfl, hb1, hb3⟩ := HA.out (by omega)
        obtain ⟨s, hs⟩ : ∃ s, s = geP pl x (j + 1) := ⟨_, rfl⟩
        have hsl : s < 256 := by rw [hs]; exact geP_lt _ hx _
        obtain ⟨y, hy⟩ : ∃ y : Nat, y = (draws[32 * j + i]).toNat := ⟨_, rfl⟩
        have hyl : y < 256 := by rw [hy]; exact UInt8.toNat_lt _
        have hcell : ∀ m, (w.drewN m).cell? ⟨b, off + (32 * j + i), none⟩ = some (.int .u8 (y : Int)) := fun m => by rw [hy]; exact hb3 _ hlt2
        have HN : Hid (geP pl x (j + 1 + 1) = s ^^^ gmul y (gpow x (j + 1))) := Lib.hid (by
          show geP pl x (j + 1) ^^^ gmul ((pl.getD (j + 1) 0).toNat) (gpow x (j + 1)) = _
          rw [HPS.out j hlt, List.getD, List.getElem?_eq_getElem hlt2, ← hs, hy]
          rfl)
        obtain ⟨q, hq⟩ : ∃ q, q = gpow x (j + 1) := ⟨_, rfl⟩
        have hql : q < 256 := hq ▸ gpow_lt hx _
        obtain ⟨z, hz⟩ : ∃ z, z = gmul y q := ⟨_, rfl⟩
        have hzl : z < 256 := hz ▸ gmul_lt hyl hql
        have HP : Hid (∀ V, Calls Try.prog 21 #[.int .u8 (x : Int), .int .i64 ((j : Int) + 1)] V fun e V' => e = .returned (.int .u8 (q : Int)) ∧ V' = V) := Lib.hid fun V => by
          rw [hq]
          exact (refPow_any x (j + 1) V hx (by omega)).mono fun e V' h => ⟨h.1, h.2.symm⟩
        have HM : Hid (∀ V, Calls Try.prog 18 #[.int .u8 (y : Int), .int .u8 (q : Int)] V fun e V' => e = .returned (.int .u8 (z : Int)) ∧ V' = V) := Lib.hid fun V => by
          rw [hz]
          exact (refMulG_any y q V hyl hql).mono fun e V' h => ⟨h.1, h.2.symm⟩
        have hxr := xorB_nat s z hsl hzl
        rw [← hq, ← hz] at HN
        rw [← hs]
        have iJ : (32 * (j : Int) + i).toNat = 32 * j + i := by omega
        clear hb3 hy hs hq hz hstop
        go_wp2_with (fail)
        go_quiet (first
          | (go_at_call 21; exact quiet_add_same (HP.out _))
          | (go_at_call 18; exact quiet_add_same (HM.out _)))
        go_wp2_with (fail)
        refine ⟨⟨j + 1, _, by go_num, by omega, by rw [HN.out], rfl⟩, by simp [intOf]; omega⟩
      · have hI2 : ¬ 32 * (j : Int) + i < draws.length := by omega
        have HE := Lib.hid (hstop (.inr (by omega)))
        clear hstop
        rw [HE.out]
        go_wp2_with (fail)
        exact HQ.out _ _ _ _ _ _ _ _ _ _ _ _ _ _ _ _ _ _ _ _ _ _ _ _ _ _ _ _ _ _ _
    · have hI : ¬ (j : Int) + 1 < t := by omega
      have HE := Lib.hid (hstop (.inl (by omega)))
      clear hstop
      rw [HE.out]
      go_wp2_with (fail)
      exact HQ.out _ _ _ _ _ _ _ _ _ _ _ _ _ _ _ _ _ _ _ _ _ _ _ _ _ _ _ _ _ _ _
end Go.Proofs.Ytpegnafapjcanaa
