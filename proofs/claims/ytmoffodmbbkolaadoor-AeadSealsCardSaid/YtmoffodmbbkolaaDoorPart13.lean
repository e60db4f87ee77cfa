/- Part 13 of the words that the laws share: RefQuart, RefBlkB. No condition of its own: each theorem says its own. -/
import Derived.Test.YtmoffodmbbkolaaDoorPart6
import Derived.StillTailTactics

/- The contracts of the fourth reference's turn, word and quarter. Conditions: words that fit uint32; places below 16. -/
namespace Go.Proofs.YtmoffodmbbkolaaDoor
open Go.RowKit

set_option maxHeartbeats 400000 in
theorem rturn_any (n k : Nat) (w : World) (hn : n < 4294967296) (hk : k ≤ 32) :
    Calls Tryd.prog 47 #[.int .u32 n, .int .i64 k] w fun e w' => e = .returned (.int .u32 (rlN k n : Nat)) ∧ w = w' := by
  have HN := Lib.hid hn
  clear hn
  go_enter Tryd.func47, Tryd.ntmps47
  go_wp2_with (fail)
  go_loop [0, 5] (fun s i => ∃ j : Nat, i = .int .i64 j ∧ j ≤ k ∧ s = .int .u32 (rlN j n : Nat)) (fun _ i => k - (intOf i).toNat)
  case atStart => exact ⟨0, rfl, by omega, rfl⟩
  case round =>
    obtain ⟨j, rfl, hj, rfl⟩ := hrel
    obtain ⟨m, hm⟩ : ∃ m, m = rlN j n := ⟨_, rfl⟩
    rw [← hm]
    have hml : (m : Int) ≤ 4294967295 := by have := rlN_lt HN.out j; omega
    have HM := Lib.hid hm
    clear hm
    by_cases hlt : j < k
    · go_wp2
      go_round
      case rel =>
        refine ⟨j + 1, by go_num, by omega, ?_⟩
        rw [rlN, ← HM.out]
        exact congrArg (Value.int .u32) (by unfold rl1; omega)
      case measure => simp [intOf]; omega
    · have hj2 : Hid (j = k) := by show j = k; omega
      go_wp2
      go_ret
      exact ⟨ret_i (by rw [HM.out, hj2.out]), rfl⟩
theorem rturn_k (n k : Nat) (K : Int) (hK : K = (k : Int)) (w : World) (hn : n < 4294967296) (hk : k ≤ 32) : Calls Tryd.prog 47 #[.int .u32 n, .int .i64 K] w fun e w' => e = .returned (.int .u32 (rlN k n : Nat)) ∧ w' = w := by
  subst hK
  exact (rturn_any n k w hn hk).mono fun e w' ⟨h1, h2⟩ => ⟨h1, h2.symm⟩
set_option maxHeartbeats 400000 in
theorem word_any (v : Value) (xs : List UInt8) (w : World) (h : Rd w v xs) (h4 : 4 ≤ xs.length) (hl : xs.length ≤ 1000000) :
    Calls Tryd.prog 32 #[v] w fun e w' => e = .returned (.int .u32 (numB (xs.take 4) : Nat)) ∧ w = w' := by
  obtain ⟨i0, hi, hz0, hz1, hz2⟩ := info_parts info_u8
  obtain ⟨A, c, S, r⟩ := h.high (P := Tryd.prog) 26 5 i0 Tryd.underlying26 hi hz1 4 h4
  have S4 : ∀ W, (Instr.slice 26 v none (some (.int .i64 4)) none).run Tryd.prog W = .ok (.slice A 4 c) W := S
  clear S
  have R := Lib.hid r
  have hn : numB (xs.take 4) < 4294967296 := numB4_lt xs 0
  have hl4 : Hid ((xs.take 4).length ≤ 8) := by show _ ≤ _; rw [List.length_take]; omega
  obtain ⟨n, hn2⟩ : ∃ n, n = numB (xs.take 4) := ⟨_, rfl⟩
  rw [← hn2] at hn ⊢
  have nI : (n : Int) ≤ 4294967295 := by omega
  have HN := Lib.hid hn2
  clear h r hn2 hn
  go_enter Tryd.func32, Tryd.ntmps32
  go_wp2_with (fail)
  refine (number_any _ (xs.take 4) _ R.out hl4.out).mono ?_
  rintro e w1 ⟨rfl, rfl⟩
  rw [← HN.out]
  go_wp2_with (fail)
  go_ret
  exact ⟨rfl, rfl⟩
/-- Sixteen words in a row of the call's own. -/
def Q4 (B G cap : Nat) (ws : List Nat) (W : World) : Prop := W.ownsRow B 47 1 (.slice (some ⟨G, 0, none⟩) 16 cap) 16 (ws.map wv)
theorem Q4.cell {B G cap : Nat} {ws : List Nat} {W : World} (h : Q4 B G cap ws W) (hok : okW ws) {j : Nat} (hj : j < 16) : W.cell? ⟨G, j, none⟩ = some (.int .u32 ((ws.getD j 0 : Nat) : Int)) := by
  have h1 := World.ownsRow.cellAt (g := G) h j (by omega)
  rw [h1, List.getElem?_map, List.getD, List.getElem?_eq_getElem (by have := hok.1; omega)]
  rfl
theorem Q4.free {B G cap : Nat} {ws : List Nat} {W : World} (h : Q4 B G cap ws W) (j : Nat) : W.frozen? ⟨G, j, none⟩ = false := World.ownsRow.frozenAt (g := G) h j
theorem Q4.put {B G cap : Nat} {ws : List Nat} {W : World} (h : Q4 B G cap ws W) (j x : Nat) : Q4 B G cap (ws.set j x) (W.setCell ⟨G, j, none⟩ (wv x)).drew := by
  have h1 := (World.ownsRow.stored (g := G) (w := W) h j (wv x)).1
  rw [← List.map_set] at h1
  exact h1
theorem Sole.drew {w w' : World} {B : Nat} (h : Sole w w' B) : Sole w w'.drew B := ⟨⟨h.below.os, h.below.tape, h.below.output, h.below.size, h.below.block⟩, h.size, h.other⟩
set_option maxRecDepth 100000 in
set_option maxHeartbeats 1000000 in
theorem quarter_any (B G cap : Nat) (ws : List Nat) (a b c d : Nat) (w : World) (ho : Q4 B G cap ws w) (hok : okW ws) (ha : a < 16) (hb : b < 16) (hc : c < 16) (hd : d < 16) :
    Calls Tryd.prog 33 #[.slice (some ⟨G, 0, none⟩) 16 cap, .int .i64 (a : Int), .int .i64 (b : Int), .int .i64 (c : Int), .int .i64 (d : Int)] w fun e w' => e = .returned (.tuple #[]) ∧ Q4 B G cap (quart ws a b c d) w' ∧ Sole w w' G := by
  have aI : (a : Int) < 16 := by omega
  have bI : (b : Int) < 16 := by omega
  have cI : (c : Int) < 16 := by omega
  have dI : (d : Int) < 16 := by omega
  have O0 := Lib.hid ho
  have K0 := Lib.hid hok
  have E0 : Hid (Sole w w G) := Lib.hid (Sole.refl w G)
  obtain ⟨s0, hs0⟩ : ∃ s, s = ws := ⟨_, rfl⟩
  rw [← hs0] at O0 K0
  have H0 := Lib.hid hs0
  obtain ⟨w0, hw0⟩ : ∃ W : World, W = w := ⟨_, rfl⟩
  have N0 := Lib.hid hw0
  rw [← hw0] at O0
  have EE0 : Hid (Sole w w0 G) := by rw [hw0]; exact E0
  clear ho hok hs0 hw0 E0
  go_enter Tryd.func33, Tryd.ntmps33
  go_wp2_with (fail)
  rw [← N0.out]
  have x0 := O0.out.cell K0.out ha
  have y0 := O0.out.cell K0.out hb
  have f0 := O0.out.free a
  obtain ⟨p0, hp0⟩ : ∃ x, x = s0.getD a 0 := ⟨_, rfl⟩
  obtain ⟨q0, hq0⟩ : ∃ x, x = s0.getD b 0 := ⟨_, rfl⟩
  have pl0 : p0 < 4294967296 := by rw [hp0]; exact K0.out.at a
  have ql0 : q0 < 4294967296 := by rw [hq0]; exact K0.out.at b
  rw [← hp0] at x0
  rw [← hq0] at y0
  have pI0 : (p0 : Int) ≤ 4294967295 := by omega
  have qI0 : (q0 : Int) ≤ 4294967295 := by omega
  obtain ⟨s1, hs1⟩ : ∃ s, s = addW s0 a b := ⟨_, rfl⟩
  have K1 : Hid (okW s1) := by rw [hs1]; exact Lib.hid (addW_ok K0.out _ _)
  have V1 : Hid (s0.set a ((p0 + q0) % 4294967296) = s1) := Lib.hid (by rw [hs1, hp0, hq0]; rfl)
  have T1 : Hid (∀ z : Int, z = ((p0 : Int) + (q0 : Int)) % 4294967296 → Value.int .u32 z = wv ((p0 + q0) % 4294967296)) := Lib.hid (fun z hz => congrArg (Value.int .u32) (by omega))
  have H1 := Lib.hid hs1
  clear hp0 hq0 hs1 pl0 ql0
  go_still_tail 12, (by kernel_rfl)
  change wpList _ _ _ _ _ w0.drew
  go_wp2_with (fail)
  rw [T1.out _ rfl]
  obtain ⟨w1, hw1⟩ : ∃ W : World, W = (w0.setCell ⟨G, a, none⟩ (wv ((p0 + q0) % 4294967296))).drew := ⟨_, rfl⟩
  have O1 : Hid (Q4 B G cap s1 w1) := Lib.hid (by rw [hw1, ← V1.out]; exact O0.out.put a _)
  have EE1 : Hid (Sole w w1 G) := Lib.hid (by rw [hw1]; exact (EE0.out.trans (Sole.setCell _ G a _)).drew)
  first
    | rw [← hw1]
    | (unfold wv at hw1; rw [← hw1])
  clear hw1 x0 y0 f0
  have x1 := O1.out.cell K1.out hd
  have y1 := O1.out.cell K1.out ha
  have f1 := O1.out.free d
  obtain ⟨p1, hp1⟩ : ∃ x, x = s1.getD d 0 := ⟨_, rfl⟩
  obtain ⟨q1, hq1⟩ : ∃ x, x = s1.getD a 0 := ⟨_, rfl⟩
  have pl1 : p1 < 4294967296 := by rw [hp1]; exact K1.out.at d
  have ql1 : q1 < 4294967296 := by rw [hq1]; exact K1.out.at a
  rw [← hp1] at x1
  rw [← hq1] at y1
  have hx1 : bits .xor .u32 (p1 : Int) (q1 : Int) = ((p1 ^^^ q1 : Nat) : Int) := u32_xor_nat _ _ pl1 ql1
  have zl1 : p1 ^^^ q1 < 4294967296 := xor_lt32 pl1 ql1
  have C1 := Lib.hid fun W => rturn_k (p1 ^^^ q1) 16 16 rfl W zl1 (by omega)
  obtain ⟨s2, hs2⟩ : ∃ s, s = rotW s1 d a 16 := ⟨_, rfl⟩
  have K2 : Hid (okW s2) := by rw [hs2]; exact Lib.hid (rotW_ok K1.out _ _ _)
  have V2 : Hid (s1.set d (rlN 16 (p1 ^^^ q1)) = s2) := Lib.hid (by rw [hs2, hp1, hq1]; rfl)
  have H2 := Lib.hid hs2
  clear hp1 hq1 hs2 pl1 ql1 zl1
  go_still_tail 13, (by kernel_rfl)
  still_call (C1.out _)
  repeat still_step
  refine wpStill_nil ?_
  change wpList _ _ _ _ _ w1.drew
  clear hx1
  go_wp2_with (fail)
  obtain ⟨w2, hw2⟩ : ∃ W : World, W = (w1.setCell ⟨G, d, none⟩ (wv (rlN 16 (p1 ^^^ q1)))).drew := ⟨_, rfl⟩
  have O2 : Hid (Q4 B G cap s2 w2) := Lib.hid (by rw [hw2, ← V2.out]; exact O1.out.put d _)
  have EE2 : Hid (Sole w w2 G) := Lib.hid (by rw [hw2]; exact (EE1.out.trans (Sole.setCell _ G d _)).drew)
  first
    | rw [← hw2]
    | (unfold wv at hw2; rw [← hw2])
  clear hw2 x1 y1 f1
  have x2 := O2.out.cell K2.out hc
  have y2 := O2.out.cell K2.out hd
  have f2 := O2.out.free c
  obtain ⟨p2, hp2⟩ : ∃ x, x = s2.getD c 0 := ⟨_, rfl⟩
  obtain ⟨q2, hq2⟩ : ∃ x, x = s2.getD d 0 := ⟨_, rfl⟩
  have pl2 : p2 < 4294967296 := by rw [hp2]; exact K2.out.at c
  have ql2 : q2 < 4294967296 := by rw [hq2]; exact K2.out.at d
  rw [← hp2] at x2
  rw [← hq2] at y2
  have pI2 : (p2 : Int) ≤ 4294967295 := by omega
  have qI2 : (q2 : Int) ≤ 4294967295 := by omega
  obtain ⟨s3, hs3⟩ : ∃ s, s = addW s2 c d := ⟨_, rfl⟩
  have K3 : Hid (okW s3) := by rw [hs3]; exact Lib.hid (addW_ok K2.out _ _)
  have V3 : Hid (s2.set c ((p2 + q2) % 4294967296) = s3) := Lib.hid (by rw [hs3, hp2, hq2]; rfl)
  have T3 : Hid (∀ z : Int, z = ((p2 : Int) + (q2 : Int)) % 4294967296 → Value.int .u32 z = wv ((p2 + q2) % 4294967296)) := Lib.hid (fun z hz => congrArg (Value.int .u32) (by omega))
  have H3 := Lib.hid hs3
  clear hp2 hq2 hs3 pl2 ql2
  go_still_tail 12, (by kernel_rfl)
  change wpList _ _ _ _ _ w2.drew
  go_wp2_with (fail)
  rw [T3.out _ rfl]
  obtain ⟨w3, hw3⟩ : ∃ W : World, W = (w2.setCell ⟨G, c, none⟩ (wv ((p2 + q2) % 4294967296))).drew := ⟨_, rfl⟩
  have O3 : Hid (Q4 B G cap s3 w3) := Lib.hid (by rw [hw3, ← V3.out]; exact O2.out.put c _)
  have EE3 : Hid (Sole w w3 G) := Lib.hid (by rw [hw3]; exact (EE2.out.trans (Sole.setCell _ G c _)).drew)
  first
    | rw [← hw3]
    | (unfold wv at hw3; rw [← hw3])
  clear hw3 x2 y2 f2
  have x3 := O3.out.cell K3.out hb
  have y3 := O3.out.cell K3.out hc
  have f3 := O3.out.free b
  obtain ⟨p3, hp3⟩ : ∃ x, x = s3.getD b 0 := ⟨_, rfl⟩
  obtain ⟨q3, hq3⟩ : ∃ x, x = s3.getD c 0 := ⟨_, rfl⟩
  have pl3 : p3 < 4294967296 := by rw [hp3]; exact K3.out.at b
  have ql3 : q3 < 4294967296 := by rw [hq3]; exact K3.out.at c
  rw [← hp3] at x3
  rw [← hq3] at y3
  have hx3 : bits .xor .u32 (p3 : Int) (q3 : Int) = ((p3 ^^^ q3 : Nat) : Int) := u32_xor_nat _ _ pl3 ql3
  have zl3 : p3 ^^^ q3 < 4294967296 := xor_lt32 pl3 ql3
  have C3 := Lib.hid fun W => rturn_k (p3 ^^^ q3) 12 12 rfl W zl3 (by omega)
  obtain ⟨s4, hs4⟩ : ∃ s, s = rotW s3 b c 12 := ⟨_, rfl⟩
  have K4 : Hid (okW s4) := by rw [hs4]; exact Lib.hid (rotW_ok K3.out _ _ _)
  have V4 : Hid (s3.set b (rlN 12 (p3 ^^^ q3)) = s4) := Lib.hid (by rw [hs4, hp3, hq3]; rfl)
  have H4 := Lib.hid hs4
  clear hp3 hq3 hs4 pl3 ql3 zl3
  go_still_tail 13, (by kernel_rfl)
  still_call (C3.out _)
  repeat still_step
  refine wpStill_nil ?_
  change wpList _ _ _ _ _ w3.drew
  clear hx3
  go_wp2_with (fail)
  obtain ⟨w4, hw4⟩ : ∃ W : World, W = (w3.setCell ⟨G, b, none⟩ (wv (rlN 12 (p3 ^^^ q3)))).drew := ⟨_, rfl⟩
  have O4 : Hid (Q4 B G cap s4 w4) := Lib.hid (by rw [hw4, ← V4.out]; exact O3.out.put b _)
  have EE4 : Hid (Sole w w4 G) := Lib.hid (by rw [hw4]; exact (EE3.out.trans (Sole.setCell _ G b _)).drew)
  first
    | rw [← hw4]
    | (unfold wv at hw4; rw [← hw4])
  clear hw4 x3 y3 f3
  have x4 := O4.out.cell K4.out ha
  have y4 := O4.out.cell K4.out hb
  have f4 := O4.out.free a
  obtain ⟨p4, hp4⟩ : ∃ x, x = s4.getD a 0 := ⟨_, rfl⟩
  obtain ⟨q4, hq4⟩ : ∃ x, x = s4.getD b 0 := ⟨_, rfl⟩
  have pl4 : p4 < 4294967296 := by rw [hp4]; exact K4.out.at a
  have ql4 : q4 < 4294967296 := by rw [hq4]; exact K4.out.at b
  rw [← hp4] at x4
  rw [← hq4] at y4
  have pI4 : (p4 : Int) ≤ 4294967295 := by omega
  have qI4 : (q4 : Int) ≤ 4294967295 := by omega
  obtain ⟨s5, hs5⟩ : ∃ s, s = addW s4 a b := ⟨_, rfl⟩
  have K5 : Hid (okW s5) := by rw [hs5]; exact Lib.hid (addW_ok K4.out _ _)
  have V5 : Hid (s4.set a ((p4 + q4) % 4294967296) = s5) := Lib.hid (by rw [hs5, hp4, hq4]; rfl)
  have T5 : Hid (∀ z : Int, z = ((p4 : Int) + (q4 : Int)) % 4294967296 → Value.int .u32 z = wv ((p4 + q4) % 4294967296)) := Lib.hid (fun z hz => congrArg (Value.int .u32) (by omega))
  have H5 := Lib.hid hs5
  clear hp4 hq4 hs5 pl4 ql4
  go_still_tail 12, (by kernel_rfl)
  change wpList _ _ _ _ _ w4.drew
  go_wp2_with (fail)
  rw [T5.out _ rfl]
  obtain ⟨w5, hw5⟩ : ∃ W : World, W = (w4.setCell ⟨G, a, none⟩ (wv ((p4 + q4) % 4294967296))).drew := ⟨_, rfl⟩
  have O5 : Hid (Q4 B G cap s5 w5) := Lib.hid (by rw [hw5, ← V5.out]; exact O4.out.put a _)
  have EE5 : Hid (Sole w w5 G) := Lib.hid (by rw [hw5]; exact (EE4.out.trans (Sole.setCell _ G a _)).drew)
  first
    | rw [← hw5]
    | (unfold wv at hw5; rw [← hw5])
  clear hw5 x4 y4 f4
  have x5 := O5.out.cell K5.out hd
  have y5 := O5.out.cell K5.out ha
  have f5 := O5.out.free d
  obtain ⟨p5, hp5⟩ : ∃ x, x = s5.getD d 0 := ⟨_, rfl⟩
  obtain ⟨q5, hq5⟩ : ∃ x, x = s5.getD a 0 := ⟨_, rfl⟩
  have pl5 : p5 < 4294967296 := by rw [hp5]; exact K5.out.at d
  have ql5 : q5 < 4294967296 := by rw [hq5]; exact K5.out.at a
  rw [← hp5] at x5
  rw [← hq5] at y5
  have hx5 : bits .xor .u32 (p5 : Int) (q5 : Int) = ((p5 ^^^ q5 : Nat) : Int) := u32_xor_nat _ _ pl5 ql5
  have zl5 : p5 ^^^ q5 < 4294967296 := xor_lt32 pl5 ql5
  have C5 := Lib.hid fun W => rturn_k (p5 ^^^ q5) 8 8 rfl W zl5 (by omega)
  obtain ⟨s6, hs6⟩ : ∃ s, s = rotW s5 d a 8 := ⟨_, rfl⟩
  have K6 : Hid (okW s6) := by rw [hs6]; exact Lib.hid (rotW_ok K5.out _ _ _)
  have V6 : Hid (s5.set d (rlN 8 (p5 ^^^ q5)) = s6) := Lib.hid (by rw [hs6, hp5, hq5]; rfl)
  have H6 := Lib.hid hs6
  clear hp5 hq5 hs6 pl5 ql5 zl5
  go_still_tail 13, (by kernel_rfl)
  still_call (C5.out _)
  repeat still_step
  refine wpStill_nil ?_
  change wpList _ _ _ _ _ w5.drew
  clear hx5
  go_wp2_with (fail)
  obtain ⟨w6, hw6⟩ : ∃ W : World, W = (w5.setCell ⟨G, d, none⟩ (wv (rlN 8 (p5 ^^^ q5)))).drew := ⟨_, rfl⟩
  have O6 : Hid (Q4 B G cap s6 w6) := Lib.hid (by rw [hw6, ← V6.out]; exact O5.out.put d _)
  have EE6 : Hid (Sole w w6 G) := Lib.hid (by rw [hw6]; exact (EE5.out.trans (Sole.setCell _ G d _)).drew)
  first
    | rw [← hw6]
    | (unfold wv at hw6; rw [← hw6])
  clear hw6 x5 y5 f5
  have x6 := O6.out.cell K6.out hc
  have y6 := O6.out.cell K6.out hd
  have f6 := O6.out.free c
  obtain ⟨p6, hp6⟩ : ∃ x, x = s6.getD c 0 := ⟨_, rfl⟩
  obtain ⟨q6, hq6⟩ : ∃ x, x = s6.getD d 0 := ⟨_, rfl⟩
  have pl6 : p6 < 4294967296 := by rw [hp6]; exact K6.out.at c
  have ql6 : q6 < 4294967296 := by rw [hq6]; exact K6.out.at d
  rw [← hp6] at x6
  rw [← hq6] at y6
  have pI6 : (p6 : Int) ≤ 4294967295 := by omega
  have qI6 : (q6 : Int) ≤ 4294967295 := by omega
  obtain ⟨s7, hs7⟩ : ∃ s, s = addW s6 c d := ⟨_, rfl⟩
  have K7 : Hid (okW s7) := by rw [hs7]; exact Lib.hid (addW_ok K6.out _ _)
  have V7 : Hid (s6.set c ((p6 + q6) % 4294967296) = s7) := Lib.hid (by rw [hs7, hp6, hq6]; rfl)
  have T7 : Hid (∀ z : Int, z = ((p6 : Int) + (q6 : Int)) % 4294967296 → Value.int .u32 z = wv ((p6 + q6) % 4294967296)) := Lib.hid (fun z hz => congrArg (Value.int .u32) (by omega))
  have H7 := Lib.hid hs7
  clear hp6 hq6 hs7 pl6 ql6
  go_still_tail 12, (by kernel_rfl)
  change wpList _ _ _ _ _ w6.drew
  go_wp2_with (fail)
  rw [T7.out _ rfl]
  obtain ⟨w7, hw7⟩ : ∃ W : World, W = (w6.setCell ⟨G, c, none⟩ (wv ((p6 + q6) % 4294967296))).drew := ⟨_, rfl⟩
  have O7 : Hid (Q4 B G cap s7 w7) := Lib.hid (by rw [hw7, ← V7.out]; exact O6.out.put c _)
  have EE7 : Hid (Sole w w7 G) := Lib.hid (by rw [hw7]; exact (EE6.out.trans (Sole.setCell _ G c _)).drew)
  first
    | rw [← hw7]
    | (unfold wv at hw7; rw [← hw7])
  clear hw7 x6 y6 f6
  have x7 := O7.out.cell K7.out hb
  have y7 := O7.out.cell K7.out hc
  have f7 := O7.out.free b
  obtain ⟨p7, hp7⟩ : ∃ x, x = s7.getD b 0 := ⟨_, rfl⟩
  obtain ⟨q7, hq7⟩ : ∃ x, x = s7.getD c 0 := ⟨_, rfl⟩
  have pl7 : p7 < 4294967296 := by rw [hp7]; exact K7.out.at b
  have ql7 : q7 < 4294967296 := by rw [hq7]; exact K7.out.at c
  rw [← hp7] at x7
  rw [← hq7] at y7
  have hx7 : bits .xor .u32 (p7 : Int) (q7 : Int) = ((p7 ^^^ q7 : Nat) : Int) := u32_xor_nat _ _ pl7 ql7
  have zl7 : p7 ^^^ q7 < 4294967296 := xor_lt32 pl7 ql7
  have C7 := Lib.hid fun W => rturn_k (p7 ^^^ q7) 7 7 rfl W zl7 (by omega)
  obtain ⟨s8, hs8⟩ : ∃ s, s = rotW s7 b c 7 := ⟨_, rfl⟩
  have K8 : Hid (okW s8) := by rw [hs8]; exact Lib.hid (rotW_ok K7.out _ _ _)
  have V8 : Hid (s7.set b (rlN 7 (p7 ^^^ q7)) = s8) := Lib.hid (by rw [hs8, hp7, hq7]; rfl)
  have H8 := Lib.hid hs8
  clear hp7 hq7 hs8 pl7 ql7 zl7
  go_still_tail 13, (by kernel_rfl)
  still_call (C7.out _)
  repeat still_step
  refine wpStill_nil ?_
  change wpList _ _ _ _ _ w7.drew
  clear hx7
  go_wp2_with (fail)
  obtain ⟨w8, hw8⟩ : ∃ W : World, W = (w7.setCell ⟨G, b, none⟩ (wv (rlN 7 (p7 ^^^ q7)))).drew := ⟨_, rfl⟩
  have O8 : Hid (Q4 B G cap s8 w8) := Lib.hid (by rw [hw8, ← V8.out]; exact O7.out.put b _)
  have EE8 : Hid (Sole w w8 G) := Lib.hid (by rw [hw8]; exact (EE7.out.trans (Sole.setCell _ G b _)).drew)
  first
    | rw [← hw8]
    | (unfold wv at hw8; rw [← hw8])
  clear hw8 x7 y7 f7
  have h : s8 = quart ws a b c d := by
    rw [H8.out, H7.out, H6.out, H5.out, H4.out, H3.out, H2.out, H1.out, H0.out]
    rfl
  go_end0
  exact ⟨rfl, h ▸ O8.out, EE8.out⟩
end Go.Proofs.YtmoffodmbbkolaaDoor

/- The fourth reference's Block: the loops over the columns and the diagonals. Condition: sixteen words that fit. -/
namespace Go.Proofs.YtmoffodmbbkolaaDoor
open Go.RowKit

theorem quarter_k (B G cap : Nat) (ws : List Nat) (a b c d : Nat) (X Y Z U : Int) (hX : X = (a : Int)) (hY : Y = (b : Int)) (hZ : Z = (c : Int)) (hU : U = (d : Int)) (w : World) (ho : Q4 B G cap ws w) (hok : okW ws) (ha : a < 16) (hb : b < 16) (hc : c < 16) (hd : d < 16) :
    Calls Tryd.prog 33 #[.slice (some ⟨G, 0, none⟩) 16 cap, .int .i64 X, .int .i64 Y, .int .i64 Z, .int .i64 U] w fun e w' => e = .returned (.tuple #[]) ∧ Q4 B G cap (quart ws a b c d) w' ∧ Sole w w' G := by
  subst hX hY hZ hU
  exact quarter_any B G cap ws a b c d w ho hok ha hb hc hd
def ColRel (B G cap : Nat) (f : Nat → List Nat) (w : World) (i : Value) (W : World) : Prop :=
  ∃ j : Nat, i = .int .i64 (j : Int) ∧ j ≤ 4 ∧ Q4 B G cap (f j) W ∧ Sole w W G
noncomputable def body_col : Code := (((Tryd.f22.body.map loopsOf).getD [])[2]?).getD .skip
set_option maxRecDepth 100000 in
set_option maxHeartbeats 1000000 in
theorem col_loop (c0 c1 c2 c3 c4 c5 c6 c7 c8 c10 c11 c13 c14 c15 c16 c17 c18 c19 c20 c21 c22 c23 c24 c25 c26 c27 c28 c29 c30 c31 c32 c33 c34 c35 c36 c37 c38 c39 c40 c41 c42 c43 c44 c45 c46 c47 c48 c49 c50 c51 c52 c53 c54 c55 c56 c57 c58 c59 c60 c61 c62 c63 c64 c65 c66 c67 c68 c69 c70 c71 c72 c73 c74 c75 c76 c77 c78 c79 c80 c81 c82 c83 c84 c85 c86 c87 c88 c89 c90 c91 c92 c93 c94 c95 c96 c97 c98 c99 c100 c101 c102 : Value) (B G cap : Nat) (ws : List Nat) (w : World) (ho : Hid (Q4 B G cap ws w)) (hok : Hid (okW ws)) {Q : Exit → Act → World → Prop}
    (HQ : Hid (∀ (u12 u53 u54 u55 u56 u57 u58 u59 u60 u61 u62 u63 u64 u65 : Value) (wx : World), Hid (Q4 B G cap (colN ws 4) wx) → Hid (Sole w wx G) → Q (.exit 4) ⟨List.toArray (c0 :: c1 :: c2 :: c3 :: c4 :: c5 :: c6 :: c7 :: c8 :: (.slice (some ⟨G, 0, none⟩) 16 cap) :: c10 :: c11 :: u12 :: c13 :: c14 :: c15 :: c16 :: c17 :: c18 :: c19 :: c20 :: c21 :: c22 :: c23 :: c24 :: c25 :: c26 :: c27 :: c28 :: c29 :: c30 :: c31 :: c32 :: c33 :: c34 :: c35 :: c36 :: c37 :: c38 :: c39 :: c40 :: c41 :: c42 :: c43 :: c44 :: c45 :: c46 :: c47 :: c48 :: c49 :: c50 :: c51 :: c52 :: u53 :: u54 :: u55 :: u56 :: u57 :: u58 :: u59 :: u60 :: u61 :: u62 :: u63 :: u64 :: u65 :: c66 :: c67 :: c68 :: c69 :: c70 :: c71 :: c72 :: c73 :: c74 :: c75 :: c76 :: c77 :: c78 :: c79 :: c80 :: c81 :: c82 :: c83 :: c84 :: c85 :: c86 :: c87 :: c88 :: c89 :: c90 :: c91 :: c92 :: c93 :: c94 :: c95 :: c96 :: c97 :: c98 :: c99 :: c100 :: c101 :: c102 :: []), []⟩ wx)) :
    (Code.loop body_col).wp Tryd.prog Q ⟨List.toArray (c0 :: c1 :: c2 :: c3 :: c4 :: c5 :: c6 :: c7 :: c8 :: (.slice (some ⟨G, 0, none⟩) 16 cap) :: c10 :: c11 :: (.int .i64 0) :: c13 :: c14 :: c15 :: c16 :: c17 :: c18 :: c19 :: c20 :: c21 :: c22 :: c23 :: c24 :: c25 :: c26 :: c27 :: c28 :: c29 :: c30 :: c31 :: c32 :: c33 :: c34 :: c35 :: c36 :: c37 :: c38 :: c39 :: c40 :: c41 :: c42 :: c43 :: c44 :: c45 :: c46 :: c47 :: c48 :: c49 :: c50 :: c51 :: c52 :: c53 :: c54 :: c55 :: c56 :: c57 :: c58 :: c59 :: c60 :: c61 :: c62 :: c63 :: c64 :: c65 :: c66 :: c67 :: c68 :: c69 :: c70 :: c71 :: c72 :: c73 :: c74 :: c75 :: c76 :: c77 :: c78 :: c79 :: c80 :: c81 :: c82 :: c83 :: c84 :: c85 :: c86 :: c87 :: c88 :: c89 :: c90 :: c91 :: c92 :: c93 :: c94 :: c95 :: c96 :: c97 :: c98 :: c99 :: c100 :: c101 :: c102 :: []), []⟩ w := by
  unfold body_col
  conv => arg 2; arg 1; whnf
  go_loopw [12] (fun i wx => ColRel B G cap (colN ws) w i wx) (fun i _ => 4 - (intOf i).toNat)
  case atStart => exact ⟨0, rfl, by omega, ho.out, Sole.refl _ _⟩
  case round =>
    obtain ⟨j, rfl, hj, q4, so⟩ := hrel
    have H4 := Lib.hid q4
    have HSO := Lib.hid so
    clear q4 so
    by_cases hlt : j < 4
    · have hI : (j : Int) < 4 := by omega
      have HC := Lib.hid (fun W (hW : Q4 B G cap (colN ws j) W) => quarter_k B G cap (colN ws j) j (4 + j) (8 + j) (12 + j) j (4 + (j : Int)) (8 + (j : Int)) (12 + (j : Int)) rfl (by omega) (by omega) (by omega) W hW (colN_ok hok.out j) (by omega) (by omega) (by omega) (by omega))
      clear hj
      go_wp2_with (fail)
      refine (HC.out _ H4.out).mono ?_
      rintro e w1 ⟨rfl, h4, hs⟩
      have K4 := Lib.hid h4
      have KS := Lib.hid (HSO.out.trans hs)
      clear h4 hs
      go_wp2_with (fail)
      go_roundw
      case rel => exact ⟨j + 1, by go_num, by omega, K4.out, KS.out⟩
      case measure => simp [intOf]; omega
    · obtain rfl : j = 4 := by omega
      go_wp2_with (fail)
      exact HQ.out _ _ _ _ _ _ _ _ _ _ _ _ _ _ _ H4 HSO
noncomputable def body_dia : Code := (((Tryd.f22.body.map loopsOf).getD [])[3]?).getD .skip
set_option maxRecDepth 100000 in
set_option maxHeartbeats 1000000 in
theorem dia_loop (c0 c1 c2 c3 c4 c5 c6 c7 c8 c10 c11 c12 c14 c15 c16 c17 c18 c19 c20 c21 c22 c23 c24 c25 c26 c27 c28 c29 c30 c31 c32 c33 c34 c35 c36 c37 c38 c39 c40 c41 c42 c43 c44 c45 c46 c47 c48 c49 c50 c51 c52 c53 c54 c55 c56 c57 c58 c59 c60 c61 c62 c63 c64 c65 c66 c67 c68 c69 c70 c71 c72 c73 c74 c75 c76 c77 c78 c79 c80 c81 c82 c83 c84 c85 c86 c87 c88 c89 c90 c91 c92 c93 c94 c95 c96 c97 c98 c99 c100 c101 c102 : Value) (B G cap : Nat) (ws : List Nat) (w : World) (ho : Hid (Q4 B G cap ws w)) (hok : Hid (okW ws)) {Q : Exit → Act → World → Prop}
    (HQ : Hid (∀ (u13 u66 u67 u68 u69 u70 u71 u72 u73 u74 u75 u76 u77 u78 u79 u80 u81 u82 u83 u84 : Value) (wx : World), Hid (Q4 B G cap (diaN ws 4) wx) → Hid (Sole w wx G) → Q (.exit 6) ⟨List.toArray (c0 :: c1 :: c2 :: c3 :: c4 :: c5 :: c6 :: c7 :: c8 :: (.slice (some ⟨G, 0, none⟩) 16 cap) :: c10 :: c11 :: c12 :: u13 :: c14 :: c15 :: c16 :: c17 :: c18 :: c19 :: c20 :: c21 :: c22 :: c23 :: c24 :: c25 :: c26 :: c27 :: c28 :: c29 :: c30 :: c31 :: c32 :: c33 :: c34 :: c35 :: c36 :: c37 :: c38 :: c39 :: c40 :: c41 :: c42 :: c43 :: c44 :: c45 :: c46 :: c47 :: c48 :: c49 :: c50 :: c51 :: c52 :: c53 :: c54 :: c55 :: c56 :: c57 :: c58 :: c59 :: c60 :: c61 :: c62 :: c63 :: c64 :: c65 :: u66 :: u67 :: u68 :: u69 :: u70 :: u71 :: u72 :: u73 :: u74 :: u75 :: u76 :: u77 :: u78 :: u79 :: u80 :: u81 :: u82 :: u83 :: u84 :: c85 :: c86 :: c87 :: c88 :: c89 :: c90 :: c91 :: c92 :: c93 :: c94 :: c95 :: c96 :: c97 :: c98 :: c99 :: c100 :: c101 :: c102 :: []), []⟩ wx)) :
    (Code.loop body_dia).wp Tryd.prog Q ⟨List.toArray (c0 :: c1 :: c2 :: c3 :: c4 :: c5 :: c6 :: c7 :: c8 :: (.slice (some ⟨G, 0, none⟩) 16 cap) :: c10 :: c11 :: c12 :: (.int .i64 0) :: c14 :: c15 :: c16 :: c17 :: c18 :: c19 :: c20 :: c21 :: c22 :: c23 :: c24 :: c25 :: c26 :: c27 :: c28 :: c29 :: c30 :: c31 :: c32 :: c33 :: c34 :: c35 :: c36 :: c37 :: c38 :: c39 :: c40 :: c41 :: c42 :: c43 :: c44 :: c45 :: c46 :: c47 :: c48 :: c49 :: c50 :: c51 :: c52 :: c53 :: c54 :: c55 :: c56 :: c57 :: c58 :: c59 :: c60 :: c61 :: c62 :: c63 :: c64 :: c65 :: c66 :: c67 :: c68 :: c69 :: c70 :: c71 :: c72 :: c73 :: c74 :: c75 :: c76 :: c77 :: c78 :: c79 :: c80 :: c81 :: c82 :: c83 :: c84 :: c85 :: c86 :: c87 :: c88 :: c89 :: c90 :: c91 :: c92 :: c93 :: c94 :: c95 :: c96 :: c97 :: c98 :: c99 :: c100 :: c101 :: c102 :: []), []⟩ w := by
  unfold body_dia
  conv => arg 2; arg 1; whnf
  go_loopw [13] (fun i wx => ColRel B G cap (diaN ws) w i wx) (fun i _ => 4 - (intOf i).toNat)
  case atStart => exact ⟨0, rfl, by omega, ho.out, Sole.refl _ _⟩
  case round =>
    obtain ⟨j, rfl, hj, q4, so⟩ := hrel
    have H4 := Lib.hid q4
    have HSO := Lib.hid so
    clear q4 so
    by_cases hlt : j < 4
    · have hI : (j : Int) < 4 := by omega
      have HC := Lib.hid (fun W (hW : Q4 B G cap (diaN ws j) W) => quarter_k B G cap (diaN ws j) j (4 + (j + 1) % 4) (8 + (j + 2) % 4) (12 + (j + 3) % 4) j (4 + ((j : Int) + 1) % 4) (8 + ((j : Int) + 2) % 4) (12 + ((j : Int) + 3) % 4) rfl (by omega) (by omega) (by omega) W hW (diaN_ok hok.out j) (by omega) (by omega) (by omega) (by omega))
      clear hj
      go_wp2_with (fail)
      refine (HC.out _ H4.out).mono ?_
      rintro e w1 ⟨rfl, h4, hs⟩
      have K4 := Lib.hid h4
      have KS := Lib.hid (HSO.out.trans hs)
      clear h4 hs
      go_wp2_with (fail)
      go_roundw
      case rel => exact ⟨j + 1, by go_num, by omega, K4.out, KS.out⟩
      case measure => simp [intOf]; omega
    · obtain rfl : j = 4 := by omega
      go_wp2_with (fail)
      exact HQ.out _ _ _ _ _ _ _ _ _ _ _ _ _ _ _ _ _ _ _ _ _ H4 HSO
end Go.Proofs.YtmoffodmbbkolaaDoor
