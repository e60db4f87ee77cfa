/- Part 19 of the words that the laws share: RDig. No condition of its own: each theorem says its own. -/
import Derived.Test.YtmoffodmbbkolaaDoorPart2
import Derived.Test.YtmoffodmbbkolaaDoorPart5
import Derived.Deep.DrawnRows
import Derived.StillTailTactics
import Derived.OwnWalk
import Derived.IntWalk

/- The contract of the fifth reference's digits. Condition: at most 17 bytes. -/
namespace Go.Proofs.YtmoffodmbbkolaaDoor
open Go.RowKit
attribute [local go_sem ↓] Go.wp_at_zero Go.wp_at_succ

/-- The digits behind t bits of a number. -/
def DigAt (w : World) (B : Nat) (N t : Nat) (W : World) : Prop := Blk W B 39 ((dg 11 (N % 2 ^ t)).map wq) ∧ Sole w W B
def DgiRel (w : World) (B : Nat) (N i : Nat) (v : Value) (W : World) : Prop := ∃ k : Nat, v = .int .i64 (k : Int) ∧ k ≤ 8 ∧ DigAt w B N (8 * i + k) W
noncomputable def body_dgi : Code := (((Tryd.f34.body.map loopsOf).getD [])[1]?).getD .skip
set_option maxRecDepth 100000 in
set_option maxHeartbeats 2000000 in
theorem dgi_loop (c1 c2 c6 c7 c8 c9 c10 c11 c12 c13 c14 c15 c16 c17 c18 c19 c20 c21 c22 c23 c24 c25 c26 c27 c28 c29 c30 c31 c32 c33 c34 c35 c36 c37 c38 c39 c40 c41 c42 c43 c44 c45 c46 c47 : Value) (v : Value) (xs : List UInt8) (i B : Nat) (w : World) (hi : i < xs.length) (hl : xs.length ≤ 17) (hv : Hid (Rd w v xs)) (hvb : Hid (0 < xs.length → ∀ g, v.ownBlock = some g → g ≠ B)) (h0 : Hid (Blk w B 39 ((dg 11 (numB xs % 2 ^ (8 * i))).map wq))) {Q : Exit → Act → World → Prop}
    (HQ : Hid (∀ (u5 u6 u7 u15 u16 u17 u18 u19 u20 u21 u22 u23 u24 u25 u26 u27 u28 u29 u30 u31 u32 u33 u34 u35 u36 u37 u38 u39 u40 u41 u42 u43 u44 u45 u46 : Value) (wx : World), Hid (Blk wx B 39 ((dg 11 (numB xs % 2 ^ (8 * (i + 1)))).map wq)) → Hid (Sole w wx B) → Q (.exit 2) ⟨List.toArray (v :: c1 :: c2 :: (.slice (some ⟨B, 0, none⟩) 11 11) :: (.int .i64 (i : Int)) :: u5 :: u6 :: u7 :: c8 :: c9 :: c10 :: c11 :: c12 :: c13 :: c14 :: u15 :: u16 :: u17 :: u18 :: u19 :: u20 :: u21 :: u22 :: u23 :: u24 :: u25 :: u26 :: u27 :: u28 :: u29 :: u30 :: u31 :: u32 :: u33 :: u34 :: u35 :: u36 :: u37 :: u38 :: u39 :: u40 :: u41 :: u42 :: u43 :: u44 :: u45 :: u46 :: c47 :: []), []⟩ wx)) :
    (Code.loop body_dgi).wp Tryd.prog Q ⟨List.toArray (v :: c1 :: c2 :: (.slice (some ⟨B, 0, none⟩) 11 11) :: (.int .i64 (i : Int)) :: (.int .i64 0) :: c6 :: c7 :: c8 :: c9 :: c10 :: c11 :: c12 :: c13 :: c14 :: c15 :: c16 :: c17 :: c18 :: c19 :: c20 :: c21 :: c22 :: c23 :: c24 :: c25 :: c26 :: c27 :: c28 :: c29 :: c30 :: c31 :: c32 :: c33 :: c34 :: c35 :: c36 :: c37 :: c38 :: c39 :: c40 :: c41 :: c42 :: c43 :: c44 :: c45 :: c46 :: c47 :: []), []⟩ w := by
  obtain ⟨A, c, rfl, hc1, hc2, hA⟩ := hv.out.form
  obtain ⟨b, off, rfl, hb1, hb2⟩ := hA (by omega)
  have hbB : b ≠ B := hvb.out (by omega) b rfl
  have hiI : (i : Int) < 17 := by omega
  have hiX : (i : Int) < xs.length := by omega
  have lI : (xs.length : Int) ≤ 17 := by omega
  unfold maxLen at hc2
  unfold body_dgi
  conv => arg 2; arg 1; whnf
  go_loopw [5] (fun v wx => DgiRel w B (numB xs) i v wx) (fun v _ => 8 - (intOf v).toNat)
  case atStart => exact ⟨0, rfl, by omega, h0.out, Sole.refl _ _⟩
  case round =>
    obtain ⟨k, rfl, hk, hblk, so⟩ := hrel
    by_cases hlt : k < 8
    · have kI : (k : Int) < 8 := by omega
      obtain ⟨t, ht⟩ : ∃ t, t = 8 * i + k := ⟨_, rfl⟩
      rw [← ht] at hblk
      have hcx := (so.cell (p := ⟨b, off + i, none⟩) hbB).trans (hb2 i hi)
      obtain ⟨x, hx⟩ : ∃ x, x = (xs[i]).toNat := ⟨_, rfl⟩
      rw [← hx] at hcx
      have xl : x < 256 := by rw [hx]; exact UInt8.toNat_lt _
      obtain ⟨N, hN⟩ : ∃ N, N = numB xs := ⟨_, rfl⟩
      rw [← hN] at hblk
      have HN := Lib.hid hN
      have hbit : N / 2 ^ t % 2 = x / 2 ^ k % 2 := by rw [hN, hx, ht]; exact byte_bit xs i k hi hlt
      have ht13 : t / 13 < 11 := by omega
      have HS := Lib.hid (dg_bit 11 N t ht13)
      obtain ⟨e, he⟩ : ∃ e, e = (dg 11 (N % 2 ^ t)).getD (t / 13) 0 := ⟨_, rfl⟩
      have el : e < 8192 := by rw [he, dg_get 11 _ ht13]; exact Nat.mod_lt _ (by decide)
      obtain ⟨y, hy⟩ : ∃ y, y = N / 2 ^ t % 2 := ⟨_, rfl⟩
      have yl : y < 2 := by rw [hy]; exact Nat.mod_lt _ (by decide)
      have hce := rq_cell hblk (i := t / 13) (by rw [dg_length]; exact ht13)
      rw [← he] at hce
      have f0 : wr.frozen? ⟨B, t / 13, none⟩ = false := hblk.free _
      have HB := Lib.hid hblk
      have HL := Lib.hid so
      rw [← he, ← hy] at HS
      have xI : (x : Int) ≤ 255 := by omega
      obtain ⟨pw, hpw⟩ : ∃ p, p = 2 ^ k := ⟨_, rfl⟩
      have pw0 : 0 < pw := by rw [hpw]; exact Nat.two_pow_pos _
      have pwl : pw ≤ 128 := by
        have := Nat.pow_le_pow_right (n := 2) (by decide) (show k ≤ 7 by omega)
        omega
      have p1 : (2 : Int) ^ k = (pw : Int) := by rw [hpw]; simp
      have p2 : IntKind.u64.wrap (pw : Int) = (pw : Int) := IntWalk.u64_in _ (by omega)
      have p3 : ¬ (pw : Int) = 0 := by omega
      have p4 : ((pw : Int) == 0) = false := by rw [beq_eq_false_iff_ne]; omega
      obtain ⟨y0, hy0⟩ : ∃ q, q = x / pw := ⟨_, rfl⟩
      have y0l : y0 ≤ 255 := by
        have := Nat.div_le_self x pw
        omega
      have d1 : (x : Int).tdiv (pw : Int) = (y0 : Int) := by rw [Int.tdiv_eq_ediv_of_nonneg (by omega), hy0]; simp
      have d3 : IntKind.u64.wrap ((x : Int).tdiv (pw : Int)) = (y0 : Int) := by rw [d1]; exact IntWalk.u64_in _ (by omega)
      have d2 : (x : Int) / (pw : Int) = (y0 : Int) := by rw [hy0]; simp
      have hyy : y = y0 % 2 := by rw [hy, hbit, hy0, hpw]
      have e1 : (y0 : Int).tmod 2 = (y : Int) := by rw [Int.tmod_eq_emod_of_nonneg (by omega)]; omega
      have e2 : (y0 : Int) % 2 = (y : Int) := by omega
      have e3 : IntKind.u64.wrap (y0 : Int) = (y0 : Int) := IntWalk.u64_in _ (by omega)
      have e4 : IntKind.u64.wrap (y : Int) = (y : Int) := IntWalk.u64_in _ (by omega)
      clear hbit hN hx he hy so hblk hk hb2 hy0 hyy hpw
      go_wp2_with (fail)
      go_quiet (fail)
      obtain ⟨wa, hwa⟩ : ∃ W : World, W = wr.drewN nq := ⟨_, rfl⟩
      have HB2 : Hid (Blk wa B 39 ((dg 11 (N % 2 ^ t)).map wq)) := Lib.hid (hwa ▸ HB.out)
      have HL2 : Hid (Sole w wa B) := Lib.hid (by rw [hwa]; exact ⟨below_drewN HL.out.below nq, HL.out.size, HL.out.other⟩)
      obtain ⟨q, hq⟩ : ∃ q, q = t / 13 := ⟨_, rfl⟩
      obtain ⟨r, hr⟩ : ∃ r, r = t % 13 := ⟨_, rfl⟩
      rw [← hq] at hce f0 ht13 HS
      rw [← hr] at HS
      have g0 : wa.cell? ⟨B, q, none⟩ = some (.int .u64 (e : Int)) := hwa ▸ hce
      have g1 : wa.frozen? ⟨B, q, none⟩ = false := hwa ▸ f0
      rw [← hwa]
      clear hwa hce f0 d1 d2 d3 e1 e2 e3 p1 p2 p3 p4
      obtain ⟨pr, hpr⟩ : ∃ p, p = 2 ^ r := ⟨_, rfl⟩
      have prl : pr ≤ 4096 := by
        have := Nat.pow_le_pow_right (n := 2) (by decide) (show r ≤ 12 by omega)
        omega
      have a0 : IntKind.i64.wrap (8 * (i : Int) + (k : Int)) = 8 * (i : Int) + (k : Int) := IntWalk.i64_in _ (by omega)
      have a1 : (8 * (i : Int) + (k : Int)).tdiv 13 = (q : Int) := by rw [Int.tdiv_eq_ediv_of_nonneg (by omega)]; omega
      have a1' : (8 * (i : Int) + (k : Int)) / 13 = (q : Int) := by omega
      have a2 : IntKind.i64.wrap ((8 * (i : Int) + (k : Int)).tdiv 13) = (q : Int) := by rw [a1]; exact IntWalk.i64_in _ (by omega)
      have a3 : (8 * (i : Int) + (k : Int)).tmod 13 = (r : Int) := by rw [Int.tmod_eq_emod_of_nonneg (by omega)]; omega
      have a3' : (8 * (i : Int) + (k : Int)) % 13 = (r : Int) := by omega
      have a4 : IntKind.i64.wrap ((8 * (i : Int) + (k : Int)).tmod 13) = (r : Int) := by rw [a3]; exact IntWalk.i64_in _ (by omega)
      have a5 : (2 : Int) ^ r = (pr : Int) := by rw [hpr]; simp
      have a6 : IntKind.u64.wrap (pr : Int) = (pr : Int) := IntWalk.u64_in _ (by omega)
      obtain ⟨m, hm⟩ : ∃ m, m = y * pr := ⟨_, rfl⟩
      have ml : m ≤ 4096 := by
        rw [hm]
        have : y = 0 ∨ y = 1 := by omega
        rcases this with h | h <;> rw [h] <;> omega
      have a7 : (y : Int) * (pr : Int) = (m : Int) := by rw [hm]; simp
      have a8 : IntKind.u64.wrap (m : Int) = (m : Int) := IntWalk.u64_in _ (by omega)
      have a9 : IntKind.u64.wrap ((e : Int) + (m : Int)) = (e : Int) + (m : Int) := IntWalk.u64_in _ (by omega)
      have a10 : IntKind.i64.wrap (q : Int) = (q : Int) := IntWalk.i64_in _ (by omega)
      have a11 : IntKind.i64.wrap (r : Int) = (r : Int) := IntWalk.i64_in _ (by omega)
      have qI : (q : Int) < 11 := by clear a0 a1 a2 a3 a4 a5 a6 a7 a8 a9 a10 a11; omega
      have rI : (r : Int) < 13 := by clear a0 a1 a2 a3 a4 a5 a6 a7 a8 a9 a10 a11; omega
      have HQ13 := Lib.hid hq
      have HM := Lib.hid hm
      have HPR := Lib.hid hpr
      have HT := Lib.hid ht
      clear hq hr hm hpr ht
      go_wp2_with (fail)
      go_still_tail 15, (by kernel_rfl)
      change wpList _ _ _ _ _ wa.drew
      go_wp2_with (fail)
      go_roundw
      case rel =>
        have h := HB2.out.set q (wq (e + m))
        have hs := HS.out
        rw [← HPR.out, ← HM.out] at hs
        rw [← List.map_set, hs] at h
        have e7 : Value.int .u64 ((e : Int) + (m : Int)) = wq (e + m) := congrArg (Value.int .u64) (by omega)
        rw [e7]
        refine ⟨k + 1, by go_num, by omega, ?_, HL2.out.trans ⟨(Sole.setCell wa B q (wq (e + m))).below.drew, (Sole.setCell wa B q (wq (e + m))).size, (Sole.setCell wa B q (wq (e + m))).other⟩⟩
        rw [show 8 * i + (k + 1) = t + 1 by rw [HT.out]; omega, ← HN.out]
        exact h.drew
      case measure => simp [intOf]; omega
    · obtain rfl : k = 8 := by omega
      have HB := Lib.hid hblk
      have HL := Lib.hid so
      clear hblk so
      go_wp2_with (fail)
      exact HQ.out _ _ _ _ _ _ _ _ _ _ _ _ _ _ _ _ _ _ _ _ _ _ _ _ _ _ _ _ _ _ _ _ _ _ _ _ HB HL
def DgoRel (w : World) (B : Nat) (xs : List UInt8) (v : Value) (W : World) : Prop := ∃ i : Nat, v = .int .i64 (i : Int) ∧ i ≤ xs.length ∧ DigAt w B (numB xs) (8 * i) W
noncomputable def body_dgo : Code := (((Tryd.f34.body.map loopsOf).getD [])[0]?).getD .skip
set_option maxRecDepth 100000 in
set_option maxHeartbeats 1000000 in
theorem dgo_loop (c1 c2 c5 c6 c7 c8 c9 c10 c11 c12 c13 c14 c15 c16 c17 c18 c19 c20 c21 c22 c23 c24 c25 c26 c27 c28 c29 c30 c31 c32 c33 c34 c35 c36 c37 c38 c39 c40 c41 c42 c43 c44 c45 c46 c47 : Value) (v : Value) (xs : List UInt8) (B : Nat) (w : World) (hl : xs.length ≤ 17) (hv : Hid (Rd w v xs)) (hvb : Hid (0 < xs.length → ∀ g, v.ownBlock = some g → g ≠ B)) (h0 : Hid (Blk w B 39 ((dg 11 0).map wq))) {Q : Exit → Act → World → Prop}
    (HQ : Hid (∀ (u4 u5 u6 u7 u9 u10 u11 u12 u13 u14 u15 u16 u17 u18 u19 u20 u21 u22 u23 u24 u25 u26 u27 u28 u29 u30 u31 u32 u33 u34 u35 u36 u37 u38 u39 u40 u41 u42 u43 u44 u45 u46 : Value) (wx : World), Hid (Blk wx B 39 ((dg 11 (numB xs)).map wq)) → Hid (Sole w wx B) → Q (.exit 0) ⟨List.toArray (v :: c1 :: c2 :: (.slice (some ⟨B, 0, none⟩) 11 11) :: u4 :: u5 :: u6 :: u7 :: c8 :: u9 :: u10 :: u11 :: u12 :: u13 :: u14 :: u15 :: u16 :: u17 :: u18 :: u19 :: u20 :: u21 :: u22 :: u23 :: u24 :: u25 :: u26 :: u27 :: u28 :: u29 :: u30 :: u31 :: u32 :: u33 :: u34 :: u35 :: u36 :: u37 :: u38 :: u39 :: u40 :: u41 :: u42 :: u43 :: u44 :: u45 :: u46 :: c47 :: []), []⟩ wx)) :
    (Code.loop body_dgo).wp Tryd.prog Q ⟨List.toArray (v :: c1 :: c2 :: (.slice (some ⟨B, 0, none⟩) 11 11) :: (.int .i64 0) :: c5 :: c6 :: c7 :: c8 :: c9 :: c10 :: c11 :: c12 :: c13 :: c14 :: c15 :: c16 :: c17 :: c18 :: c19 :: c20 :: c21 :: c22 :: c23 :: c24 :: c25 :: c26 :: c27 :: c28 :: c29 :: c30 :: c31 :: c32 :: c33 :: c34 :: c35 :: c36 :: c37 :: c38 :: c39 :: c40 :: c41 :: c42 :: c43 :: c44 :: c45 :: c46 :: c47 :: []), []⟩ w := by
  obtain ⟨A, c, rfl, hc1, hc2, _⟩ := hv.out.form
  have lI : (xs.length : Int) ≤ 17 := by omega
  unfold body_dgo
  conv => arg 2; arg 1; whnf
  go_loopw [4] (fun v wx => DgoRel w B xs v wx) (fun v _ => xs.length - (intOf v).toNat)
  case atStart => exact ⟨0, rfl, by omega, by simpa [Nat.mod_one] using h0.out, Sole.refl _ _⟩
  case round =>
    obtain ⟨i, rfl, hi, hblk, so⟩ := hrel
    have HB := Lib.hid hblk
    have HL := Lib.hid so
    clear hblk so
    by_cases hlt : i < xs.length
    · have hI : (i : Int) < xs.length := by omega
      have HV := Lib.hid (Sole.rd HL.out hv.out (fun h e => hvb.out h B e rfl))
      go_wp2_with (fail)
      refine dgi_loop _ _ _ _ _ _ _ _ _ _ _ _ _ _ _ _ _ _ _ _ _ _ _ _ _ _ _ _ _ _ _ _ _ _ _ _ _ _ _ _ _ _ _ _ _ xs i B wr hlt hl HV hvb HB (Lib.hid ?_)
      intro u5 u6 u7 u15 u16 u17 u18 u19 u20 u21 u22 u23 u24 u25 u26 u27 u28 u29 u30 u31 u32 u33 u34 u35 u36 u37 u38 u39 u40 u41 u42 u43 u44 u45 u46 w2 hb2 hs2
      go_wp2_with (fail)
      go_roundw
      case rel => exact ⟨i + 1, by go_num, by omega, hb2.out, HL.out.trans hs2.out⟩
      case measure => simp [intOf]; omega
    · obtain rfl : i = xs.length := by omega
      have HB2 : Hid (Blk wr B 39 ((dg 11 (numB xs)).map wq)) := Lib.hid (by
        have h := HB.out
        have h2 := numB_lt xs
        rw [show (256 : Nat) = 2 ^ 8 from rfl, ← Nat.pow_mul] at h2
        rw [Nat.mod_eq_of_lt h2] at h
        exact h)
      go_wp2_with (fail)
      exact HQ.out _ _ _ _ _ _ _ _ _ _ _ _ _ _ _ _ _ _ _ _ _ _ _ _ _ _ _ _ _ _ _ _ _ _ _ _ _ _ _ _ _ _ _ HB2 HL
set_option maxRecDepth 100000 in
set_option maxHeartbeats 1000000 in
theorem digits_any (v : Value) (xs : List UInt8) (w : World) (h : Rd w v xs) (hl : xs.length ≤ 17) :
    Calls Tryd.prog 34 #[v] w fun e w' => ∃ B, e = .returned (.slice (some ⟨B, 0, none⟩) 11 11) ∧ w.heap.size ≤ B ∧ Blk w' B 39 ((dg 11 (numB xs)).map wq) ∧ Below w.heap.size w w' := by
  obtain ⟨i3, q0, q1, q2, q3⟩ := info_parts info_u64
  have HR := Lib.hid h
  have HVB : Hid (0 < xs.length → ∀ g, v.ownBlock = some g → g ≠ w.heap.size) := Lib.hid fun h0 g hg e => by
    rcases h with ⟨A, c, rfl, _, h3, rfl⟩ | ⟨b, off, c, rfl, h2, _⟩
    · simp at h0
    · have : b = g := by simpa [Value.ownBlock] using hg
      omega
  clear h
  go_enter Tryd.func34, Tryd.ntmps34
  go_wp2_with (at_make
               refine wpList_make_full _ rfl _ _ _ rfl w.heap.size 39 i3 _ 1 Tryd.underlying69 q0 q1 q2 _ _ _ _ 11 rfl rfl ?_ ?_ ?_ ?_ (Nat.le_refl _) ?_
               · rfl
               · rfl
               · rw [q3]; omega
               · unfold maxLen; omega
               intro w1 own1 g1)
  have b1 : Below w.heap.size w w1 := (Below.refl _ _).grown g1 (Nat.le_refl _) (fun k h => by cases h)
  have hb := blk_of_own own1
  rw [made_one rfl] at hb
  have H0 : Hid (Blk w1 w.heap.size 39 ((dg 11 0).map wq)) := Lib.hid hb
  have HV := Lib.hid (HR.out.below b1)
  have D1 := Lib.hid b1
  clear hb own1 g1 b1
  refine dgo_loop _ _ _ _ _ _ _ _ _ _ _ _ _ _ _ _ _ _ _ _ _ _ _ _ _ _ _ _ _ _ _ _ _ _ _ _ _ _ _ _ _ _ _ _ _ v xs w.heap.size _ hl HV HVB H0 (Lib.hid ?_)
  intro u4 u5 u6 u7 u9 u10 u11 u12 u13 u14 u15 u16 u17 u18 u19 u20 u21 u22 u23 u24 u25 u26 u27 u28 u29 u30 u31 u32 u33 u34 u35 u36 u37 u38 u39 u40 u41 u42 u43 u44 u45 u46 w2 hb2 hs2
  go_wp2_with (fail)
  go_ret
  exact ⟨w.heap.size, rfl, Nat.le_refl _, hb2.out, D1.out.trans hs2.out.below⟩
end Go.Proofs.YtmoffodmbbkolaaDoor
