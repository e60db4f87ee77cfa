/- Part 9 of the words that the laws share: CQuart, CBlkA. No condition of its own: each theorem says its own. -/
import Derived.Test.YtmoffodmbbkolaaDoorPart6
import Derived.Test.YtmoffodmbbkolaaDoorPart8
import Derived.Deep.DrawnRows
import Derived.Deep.RegionHeld3

/- The contract of chacha's quarter: the four words at four places of a block go through a quarter. Conditions: sixteen words that fit; four unlike places below 16. -/
namespace Go.Proofs.YtmoffodmbbkolaaDoor
open Go.RowKit
attribute [local go_sem ↓] Go.wp_at_zero Go.wp_at_succ

theorem at_getD {W : World} {G : Nat} {t : TypeId} {ws : List Nat} (h : Blk W G t (ws.map wv)) {a x : Nat} (ha : a < ws.length) (hx : ws.getD a 0 = x) : W.cell? ⟨G, a, none⟩ = some (.int .u32 (x : Int)) := by
  rw [h.cell a, List.getElem?_map, List.getElem?_eq_getElem ha]
  rw [List.getD, List.getElem?_eq_getElem ha] at hx
  have e : ws[a] = x := hx
  rw [e]
  rfl
theorem grown_sole {w a b : World} {G : Nat} (h : w.grownBy a (some G)) (hs : Sole a b G) : w.grownBy b (some G) :=
  ⟨hs.below.os.trans h.os, hs.below.tape.trans h.tape, hs.below.output.trans h.output, Nat.le_trans h.size (Nat.le_of_eq hs.size.symm), fun k hk hne => (hs.other k (fun e => hne (by rw [e]))).trans (h.block k hk hne)⟩
set_option maxRecDepth 100000 in
set_option maxHeartbeats 2000000 in
theorem cquart_any (G : Nat) (T : TypeId) (ws : List Nat) (a b c d : Nat) (w : World) (hg : Blk w G T (ws.map wv)) (hok : okW ws) (ha : a < 16) (hb : b < 16) (hc : c < 16) (hd : d < 16)
    (hab : a ≠ b) (hac : a ≠ c) (had : a ≠ d) (hbc : b ≠ c) (hbd : b ≠ d) (hcd : c ≠ d) :
    Calls Tryd.prog 39 #[.pointer (some ⟨G, 0, none⟩), .agg #[.int .i64 (a : Int), .int .i64 (b : Int), .int .i64 (c : Int), .int .i64 (d : Int)]] w
      fun e w' => e = .returned (.tuple #[]) ∧ Blk w' G T ((quart ws a b c d).map wv) ∧ w.grownBy w' (some G) := by
  have HI : Hid ((Tryd.prog.info? 47).map (·.size) = some 1) := by show _ = _; kernel_rfl
  obtain ⟨W1, hW1⟩ : ∃ W : World, W = w.alloc (.cells #[.int .i64 (a : Int), .int .i64 (b : Int), .int .i64 (c : Int), .int .i64 (d : Int)] 74) := ⟨_, rfl⟩
  obtain ⟨N, hN⟩ : ∃ N, N = w.heap.size := ⟨_, rfl⟩
  have HNG : Hid (G < N) := Lib.hid (by rw [hN]; exact hg.lt)
  have HB1 : Hid (Blk W1 N 74 [.int .i64 (a : Int), .int .i64 (b : Int), .int .i64 (c : Int), .int .i64 (d : Int)]) := Lib.hid (by rw [hW1, hN]; exact Blk.made w _ _)
  have HG1 : Hid (Blk W1 G T (ws.map wv)) := Lib.hid (by rw [hW1]; exact hg.alloc _)
  have HD1 : Hid (w.grownBy W1 (some G)) := Lib.hid (by rw [hW1]; exact World.grownBy_alloc _ _ _)
  have hl := hok.1
  obtain ⟨x, hx⟩ : ∃ x, ws.getD a 0 = x := ⟨_, rfl⟩
  obtain ⟨y, hy⟩ : ∃ x, ws.getD b 0 = x := ⟨_, rfl⟩
  obtain ⟨z, hz⟩ : ∃ x, ws.getD c 0 = x := ⟨_, rfl⟩
  obtain ⟨u, hu⟩ : ∃ x, ws.getD d 0 = x := ⟨_, rfl⟩
  have HQ := Lib.hid (quart_eq (ws := ws) (by omega) (by omega) (by omega) (by omega) hab hac had hbc hbd hcd hx hy hz hu)
  have xl : x < 4294967296 := by rw [← hx]; exact hok.at a
  have yl : y < 4294967296 := by rw [← hy]; exact hok.at b
  have zl : z < 4294967296 := by rw [← hz]; exact hok.at c
  have ul : u < 4294967296 := by rw [← hu]; exact hok.at d
  have ca := at_getD HG1.out (by omega) hx
  have cb := at_getD HG1.out (by omega) hy
  have cc := at_getD HG1.out (by omega) hz
  have cd := at_getD HG1.out (by omega) hu
  have b0 : W1.cell? ⟨N, 0, none⟩ = some (.int .i64 (a : Int)) := HB1.out.cell 0
  have b1 : W1.cell? ⟨N, 1, none⟩ = some (.int .i64 (b : Int)) := HB1.out.cell 1
  have b2 : W1.cell? ⟨N, 2, none⟩ = some (.int .i64 (c : Int)) := HB1.out.cell 2
  have b3 : W1.cell? ⟨N, 3, none⟩ = some (.int .i64 (d : Int)) := HB1.out.cell 3
  have aI : (a : Int) < 16 := by omega
  have bI : (b : Int) < 16 := by omega
  have cI : (c : Int) < 16 := by omega
  have dI : (d : Int) < 16 := by omega
  have HL := Lib.hid hl
  have DAB := Lib.hid hab
  have DAC := Lib.hid hac
  have DAD := Lib.hid had
  have DBC := Lib.hid hbc
  have DBD := Lib.hid hbd
  have DCD := Lib.hid hcd
  have HW1 := Lib.hid hW1
  have HN := Lib.hid hN
  clear hg hok hab hac had hbc hbd hcd hx hy hz hu hl hW1 hN
  obtain ⟨p1, hp1⟩ : ∃ q, q = (x + y) % 4294967296 := ⟨_, rfl⟩
  have p1l : p1 < 4294967296 := by rw [hp1]; first | exact Nat.mod_lt _ (by omega) | exact rlN_lt (xor_lt32 (by omega) (by omega)) _
  obtain ⟨e2, he2⟩ : ∃ q, q = u ^^^ p1 := ⟨_, rfl⟩
  obtain ⟨p2, hp2⟩ : ∃ q, q = rlN 16 e2 := ⟨_, rfl⟩
  have e2l : e2 < 4294967296 := by rw [he2]; exact xor_lt32 (by omega) (by omega)
  have p2l : p2 < 4294967296 := by rw [hp2]; exact rlN_lt e2l _
  obtain ⟨p3, hp3⟩ : ∃ q, q = (z + p2) % 4294967296 := ⟨_, rfl⟩
  have p3l : p3 < 4294967296 := by rw [hp3]; first | exact Nat.mod_lt _ (by omega) | exact rlN_lt (xor_lt32 (by omega) (by omega)) _
  obtain ⟨e4, he4⟩ : ∃ q, q = y ^^^ p3 := ⟨_, rfl⟩
  obtain ⟨p4, hp4⟩ : ∃ q, q = rlN 12 e4 := ⟨_, rfl⟩
  have e4l : e4 < 4294967296 := by rw [he4]; exact xor_lt32 (by omega) (by omega)
  have p4l : p4 < 4294967296 := by rw [hp4]; exact rlN_lt e4l _
  obtain ⟨p5, hp5⟩ : ∃ q, q = (p1 + p4) % 4294967296 := ⟨_, rfl⟩
  have p5l : p5 < 4294967296 := by rw [hp5]; first | exact Nat.mod_lt _ (by omega) | exact rlN_lt (xor_lt32 (by omega) (by omega)) _
  obtain ⟨e6, he6⟩ : ∃ q, q = p2 ^^^ p5 := ⟨_, rfl⟩
  obtain ⟨p6, hp6⟩ : ∃ q, q = rlN 8 e6 := ⟨_, rfl⟩
  have e6l : e6 < 4294967296 := by rw [he6]; exact xor_lt32 (by omega) (by omega)
  have p6l : p6 < 4294967296 := by rw [hp6]; exact rlN_lt e6l _
  obtain ⟨p7, hp7⟩ : ∃ q, q = (p3 + p6) % 4294967296 := ⟨_, rfl⟩
  have p7l : p7 < 4294967296 := by rw [hp7]; first | exact Nat.mod_lt _ (by omega) | exact rlN_lt (xor_lt32 (by omega) (by omega)) _
  obtain ⟨e8, he8⟩ : ∃ q, q = p4 ^^^ p7 := ⟨_, rfl⟩
  obtain ⟨p8, hp8⟩ : ∃ q, q = rlN 7 e8 := ⟨_, rfl⟩
  have e8l : e8 < 4294967296 := by rw [he8]; exact xor_lt32 (by omega) (by omega)
  have p8l : p8 < 4294967296 := by rw [hp8]; exact rlN_lt e8l _
  have HE : Hid (quart ws a b c d = (((ws.set a p5).set b p8).set c p7).set d p6) := Lib.hid (by rw [HQ.out, hp8, he8, hp7, hp6, he6, hp5, hp4, he4, hp3, hp2, he2, hp1]; rfl)
  have C2 : Hid (∀ W, Calls Tryd.prog 48 #[.int .u32 (e2 : Int), .int .i64 16] W fun e w' => e = .returned (.int .u32 (p2 : Int)) ∧ W = w') := Lib.hid fun W => by
    have h := rotl_k e2 16 16 rfl W e2l (by omega)
    rw [← hp2] at h
    exact h
  have C4 : Hid (∀ W, Calls Tryd.prog 48 #[.int .u32 (e4 : Int), .int .i64 12] W fun e w' => e = .returned (.int .u32 (p4 : Int)) ∧ W = w') := Lib.hid fun W => by
    have h := rotl_k e4 12 12 rfl W e4l (by omega)
    rw [← hp4] at h
    exact h
  have C6 : Hid (∀ W, Calls Tryd.prog 48 #[.int .u32 (e6 : Int), .int .i64 8] W fun e w' => e = .returned (.int .u32 (p6 : Int)) ∧ W = w') := Lib.hid fun W => by
    have h := rotl_k e6 8 8 rfl W e6l (by omega)
    rw [← hp6] at h
    exact h
  have C8 : Hid (∀ W, Calls Tryd.prog 48 #[.int .u32 (e8 : Int), .int .i64 7] W fun e w' => e = .returned (.int .u32 (p8 : Int)) ∧ W = w') := Lib.hid fun W => by
    have h := rotl_k e8 7 7 rfl W e8l (by omega)
    rw [← hp8] at h
    exact h
  have r1 : ((x : Int) + (y : Int)) % 4294967296 = (p1 : Int) := by rw [hp1]; omega
  have r2 : bits .xor .u32 (u : Int) (p1 : Int) = (e2 : Int) := by rw [he2]; exact u32_xor_nat _ _ (by omega) (by omega)
  have r3 : ((z : Int) + (p2 : Int)) % 4294967296 = (p3 : Int) := by rw [hp3]; omega
  have r4 : bits .xor .u32 (y : Int) (p3 : Int) = (e4 : Int) := by rw [he4]; exact u32_xor_nat _ _ (by omega) (by omega)
  have r5 : ((p1 : Int) + (p4 : Int)) % 4294967296 = (p5 : Int) := by rw [hp5]; omega
  have r6 : bits .xor .u32 (p2 : Int) (p5 : Int) = (e6 : Int) := by rw [he6]; exact u32_xor_nat _ _ (by omega) (by omega)
  have r7 : ((p3 : Int) + (p6 : Int)) % 4294967296 = (p7 : Int) := by rw [hp7]; omega
  have r8 : bits .xor .u32 (p4 : Int) (p7 : Int) = (e8 : Int) := by rw [he8]; exact u32_xor_nat _ _ (by omega) (by omega)
  clear hp1 he2 hp2 hp3 he4 hp4 hp5 he6 hp6 hp7 he8 hp8 p1l e2l p2l p3l e4l p4l p5l e6l p6l p7l e8l p8l xl yl zl ul
  go_enter Tryd.func39, Tryd.ntmps39
  go_wp2_with (fail)
  rw [← HW1.out, ← HN.out]
  go_region_held3 (fun W => W.cell? ⟨N, 0, none⟩ = some (.int .i64 (a : Int)) ∧ W.cell? ⟨N, 1, none⟩ = some (.int .i64 (b : Int)) ∧ W.cell? ⟨N, 2, none⟩ = some (.int .i64 (c : Int)) ∧ W.cell? ⟨N, 3, none⟩ = some (.int .i64 (d : Int)) ∧ W.cell? ⟨G, a, none⟩ = some (.int .u32 (x : Int)) ∧ W.cell? ⟨G, b, none⟩ = some (.int .u32 (y : Int)) ∧ W.cell? ⟨G, c, none⟩ = some (.int .u32 (z : Int)) ∧ W.cell? ⟨G, d, none⟩ = some (.int .u32 (u : Int))) (go_keep) (fail)
  go_wp2_with (fail)
  refine (C2.out _).mono ?_
  rintro e w2 ⟨rfl, rfl⟩
  go_wp2_with (fail)
  refine (C4.out _).mono ?_
  rintro e w2 ⟨rfl, rfl⟩
  go_wp2_with (fail)
  refine (C6.out _).mono ?_
  rintro e w2 ⟨rfl, rfl⟩
  go_wp2_with (fail)
  refine (C8.out _).mono ?_
  rintro e w2 ⟨rfl, rfl⟩
  have R7 := Lib.hid r7
  clear r1 r2 r3 r4 r5 r6 r7 r8 ca cb cc cd
  obtain ⟨W2, hW2⟩ : ∃ W : World, W = W1.drew := ⟨_, rfl⟩
  have HG2 : Hid (Blk W2 G T (ws.map wv)) := Lib.hid (by rw [hW2]; exact HG1.out.drew)
  have HD2 : Hid (w.grownBy W2 (some G)) := Lib.hid (by rw [hW2]; exact ⟨HD1.out.os, HD1.out.tape, HD1.out.output, HD1.out.size, HD1.out.block⟩)
  have q0 : W2.cell? ⟨N, 0, none⟩ = some (.int .i64 (a : Int)) := by rw [hW2]; exact b0
  have q1 : W2.cell? ⟨N, 1, none⟩ = some (.int .i64 (b : Int)) := by rw [hW2]; exact b1
  have q2 : W2.cell? ⟨N, 2, none⟩ = some (.int .i64 (c : Int)) := by rw [hW2]; exact b2
  have q3 : W2.cell? ⟨N, 3, none⟩ = some (.int .i64 (d : Int)) := by rw [hW2]; exact b3
  rw [← hW2]
  have HW2 := Lib.hid hW2
  have HNE : Hid (N ≠ G) := Lib.hid (by have := HNG.out; omega)
  clear b0 b1 b2 b3 hW2
  go_wp2_with (fail)
  have k1 := DAB.out
  have k2 := DAC.out
  have k3 := DAD.out
  have k4 := DBC.out
  have k5 := DBD.out
  have k6 := DCD.out
  have k7 := DAB.out.symm
  have k8 := DAC.out.symm
  have k9 := DAD.out.symm
  have k10 := DBC.out.symm
  have k11 := DBD.out.symm
  have k12 := DCD.out.symm
  have k13 := HNE.out
  have k14 := HNE.out.symm
  have f0 := HG2.out.free a
  have f1 := HG2.out.free b
  have f2 := HG2.out.free c
  have f3 := HG2.out.free d
  have g0 := at_getD HG2.out (by rw [HL.out]; exact ha) rfl
  have g1 := at_getD HG2.out (by rw [HL.out]; exact hb) rfl
  have g2 := at_getD HG2.out (by rw [HL.out]; exact hc) rfl
  have g3 := at_getD HG2.out (by rw [HL.out]; exact hd) rfl
  go_region_held3 (fun W => W.cell? ⟨N, 0, none⟩ = some (.int .i64 (a : Int)) ∧ W.cell? ⟨N, 1, none⟩ = some (.int .i64 (b : Int)) ∧ W.cell? ⟨N, 2, none⟩ = some (.int .i64 (c : Int)) ∧ W.cell? ⟨N, 3, none⟩ = some (.int .i64 (d : Int))) (go_keep) (fail)
  go_wp2_with (fail)
  rw [R7.out]
  go_end0
  refine ⟨rfl, ?_, ?_⟩
  · have h := (((HG2.out.set a (wv p5)).set b (wv p8)).set c (wv p7)).set d (wv p6)
    rw [← List.map_set, ← List.map_set, ← List.map_set, ← List.map_set, ← HE.out] at h
    exact h.drew
  · have h := grown_sole (grown_sole (grown_sole (grown_sole HD2.out (Sole.setCell _ G a (wv p5))) (Sole.setCell _ G b (wv p8))) (Sole.setCell _ G c (wv p7))) (Sole.setCell _ G d (wv p6))
    exact ⟨h.os, h.tape, h.output, h.size, h.block⟩
end Go.Proofs.YtmoffodmbbkolaaDoor

/- chacha's block: the loop over the eight quarters. Conditions: sixteen words that fit; the table of the places as it is laid. -/
namespace Go.Proofs.YtmoffodmbbkolaaDoor
open Go.RowKit

/-- The places of the quarters, as the table has them. -/
def qT : List Nat := [0, 4, 8, 12, 1, 5, 9, 13, 2, 6, 10, 14, 3, 7, 11, 15, 0, 5, 10, 15, 1, 6, 11, 12, 2, 7, 8, 13, 3, 4, 9, 14]
def Qs (w : World) : Prop := 0 < w.heap.size ∧ ∀ i, i < 32 → w.cell? ⟨0, i, none⟩ = some (.int .i64 ((qT.getD i 0 : Nat) : Int))
theorem Qs.below {w w' : World} (h : Qs w) (hb : Below w.heap.size w w') : Qs w' := ⟨Nat.lt_of_lt_of_le h.1 hb.size, fun i hi => (hb.cell (p := ⟨0, i, none⟩) h.1).trans (h.2 i hi)⟩
theorem Qs.alloc {w : World} (h : Qs w) (o : Obj) : Qs (w.alloc o) := h.below ((Below.refl _ _).alloc (Nat.le_refl _) o)
theorem Qs.grew {w w' : World} {N : Nat} (h : Qs w) (hg : w.grownBy w' (some N)) (hN : 0 < N) : Qs w' :=
  ⟨Nat.lt_of_lt_of_le h.1 hg.size, fun i hi => (World.cell?_of_block (a := ⟨0, i, none⟩) (hg.block 0 h.1 (fun e => by injection e with e; omega))).trans (h.2 i hi)⟩
/-- The first i quarters of eight. -/
def qrN (ws : List Nat) (i : Nat) : List Nat := if i ≤ 4 then colN ws i else diaN (colN ws 4) (i - 4)
theorem qrN_ok {ws : List Nat} (h : okW ws) (i : Nat) : okW (qrN ws i) := by
  unfold qrN
  split
  · exact colN_ok h _
  · exact diaN_ok (colN_ok h _) _
theorem qrN_succ (ws : List Nat) {i : Nat} (h : i < 8) : qrN ws (i + 1) = quart (qrN ws i) (qT.getD (i * 4) 0) (qT.getD (i * 4 + 1) 0) (qT.getD (i * 4 + 2) 0) (qT.getD (i * 4 + 3) 0) := by
  obtain rfl | rfl | rfl | rfl | rfl | rfl | rfl | rfl : i = 0 ∨ i = 1 ∨ i = 2 ∨ i = 3 ∨ i = 4 ∨ i = 5 ∨ i = 6 ∨ i = 7 := by omega
  all_goals rfl
theorem qT_apart {i : Nat} (h : i < 8) : (qT.getD (i * 4) 0 < 16 ∧ qT.getD (i * 4 + 1) 0 < 16 ∧ qT.getD (i * 4 + 2) 0 < 16 ∧ qT.getD (i * 4 + 3) 0 < 16) ∧ (qT.getD (i * 4) 0 ≠ qT.getD (i * 4 + 1) 0 ∧ qT.getD (i * 4) 0 ≠ qT.getD (i * 4 + 2) 0 ∧ qT.getD (i * 4) 0 ≠ qT.getD (i * 4 + 3) 0 ∧ qT.getD (i * 4 + 1) 0 ≠ qT.getD (i * 4 + 2) 0 ∧ qT.getD (i * 4 + 1) 0 ≠ qT.getD (i * 4 + 3) 0 ∧ qT.getD (i * 4 + 2) 0 ≠ qT.getD (i * 4 + 3) 0) := by
  obtain rfl | rfl | rfl | rfl | rfl | rfl | rfl | rfl : i = 0 ∨ i = 1 ∨ i = 2 ∨ i = 3 ∨ i = 4 ∨ i = 5 ∨ i = 6 ∨ i = 7 := by omega
  all_goals decide
theorem grown_trans {a b c : World} {row : Option Nat} (h : a.grownBy b row) (k : b.grownBy c row) : a.grownBy c row := World.grownBy.trans h k
def QuaRel (G : Nat) (T : TypeId) (ws : List Nat) (w : World) (i : Value) (W : World) : Prop :=
  ∃ j : Nat, i = .int .i64 (j : Int) ∧ j ≤ 8 ∧ Blk W G T ((qrN ws j).map wv) ∧ w.grownBy W (some G)
noncomputable def body_qua : Code := (((Tryd.f28.body.map loopsOf).getD [])[1]?).getD .skip
set_option maxRecDepth 100000 in
set_option maxHeartbeats 1000000 in
theorem qua_loop (c0 c1 c2 c4 c5 c6 c7 c8 c9 c10 c11 c12 c14 c15 c16 c17 c18 c19 c20 c21 c22 c23 c24 c25 c26 c27 c28 c29 c30 c31 c32 c33 c34 c35 c36 c37 c38 c39 c40 c41 c42 c43 c44 c45 c46 c47 : Value) (G : Nat) (T : TypeId) (ws : List Nat) (w : World) (h0 : 0 < G) (ho : Hid (Blk w G T (ws.map wv))) (hok : Hid (okW ws)) (hq : Hid (Qs w)) {Q : Exit → Act → World → Prop}
    (HQ : Hid (∀ (u4 u13 u14 u15 u16 u17 u18 u19 u20 : Value) (wx : World), Hid (Blk wx G T ((diaN (colN ws 4) 4).map wv)) → Hid (w.grownBy wx (some G)) → Q (.exit 2) ⟨List.toArray (c0 :: c1 :: c2 :: (.pointer (some ⟨G, 0, none⟩)) :: u4 :: c5 :: c6 :: c7 :: c8 :: c9 :: c10 :: c11 :: c12 :: u13 :: u14 :: u15 :: u16 :: u17 :: u18 :: u19 :: u20 :: c21 :: c22 :: c23 :: c24 :: c25 :: c26 :: c27 :: c28 :: c29 :: c30 :: c31 :: c32 :: c33 :: c34 :: c35 :: c36 :: c37 :: c38 :: c39 :: c40 :: c41 :: c42 :: c43 :: c44 :: c45 :: c46 :: c47 :: []), []⟩ wx)) :
    (Code.loop body_qua).wp Tryd.prog Q ⟨List.toArray (c0 :: c1 :: c2 :: (.pointer (some ⟨G, 0, none⟩)) :: c4 :: c5 :: c6 :: c7 :: c8 :: c9 :: c10 :: c11 :: c12 :: (.int .i64 0) :: c14 :: c15 :: c16 :: c17 :: c18 :: c19 :: c20 :: c21 :: c22 :: c23 :: c24 :: c25 :: c26 :: c27 :: c28 :: c29 :: c30 :: c31 :: c32 :: c33 :: c34 :: c35 :: c36 :: c37 :: c38 :: c39 :: c40 :: c41 :: c42 :: c43 :: c44 :: c45 :: c46 :: c47 :: []), []⟩ w := by
  unfold body_qua
  conv => arg 2; arg 1; whnf
  go_loopw [13] (fun i wx => QuaRel G T ws w i wx) (fun i _ => 8 - (intOf i).toNat)
  case atStart => exact ⟨0, rfl, by omega, ho.out, ⟨rfl, rfl, rfl, Nat.le_refl _, fun _ _ _ => rfl⟩⟩
  case round =>
    obtain ⟨j, rfl, hj, hb, hg⟩ := hrel
    by_cases hlt : j < 8
    · have hI : (j : Int) < 8 := by omega
      have HQ1 := hq.out.grew hg h0
      have c0 := HQ1.2 (j * 4) (by omega)
      have c1 := HQ1.2 (j * 4 + 1) (by omega)
      have c2 := HQ1.2 (j * 4 + 2) (by omega)
      have c3 := HQ1.2 (j * 4 + 3) (by omega)
      have HS := Lib.hid (qrN_succ ws hlt)
      have hap := qT_apart hlt
      obtain ⟨a, ha⟩ : ∃ q, q = qT.getD (j * 4) 0 := ⟨_, rfl⟩
      obtain ⟨b, hbq⟩ : ∃ q, q = qT.getD (j * 4 + 1) 0 := ⟨_, rfl⟩
      obtain ⟨c, hc⟩ : ∃ q, q = qT.getD (j * 4 + 2) 0 := ⟨_, rfl⟩
      obtain ⟨d, hd⟩ : ∃ q, q = qT.getD (j * 4 + 3) 0 := ⟨_, rfl⟩
      rw [← ha] at c0
      rw [← hbq] at c1
      rw [← hc] at c2
      rw [← hd] at c3
      rw [← ha, ← hbq, ← hc, ← hd] at hap HS
      obtain ⟨⟨a1, a2, a3, a4⟩, d1, d2, d3, d4, d5, d6⟩ := hap
      have HC := Lib.hid (cquart_any G T (qrN ws j) a b c d wr hb (qrN_ok hok.out j) a1 a2 a3 a4 d1 d2 d3 d4 d5 d6)
      have HG := Lib.hid hg
      clear ha hbq hc hd hb hg a1 a2 a3 a4 d1 d2 d3 d4 d5 d6 hj HQ1
      go_wp2_with (fail)
      refine (HC.out).mono ?_
      rintro e w1 ⟨rfl, hb1, hg1⟩
      have KB := Lib.hid hb1
      have KG := Lib.hid (grown_trans HG.out hg1)
      clear hb1 hg1
      go_wp2_with (fail)
      go_roundw
      case rel => exact ⟨j + 1, by go_num, by omega, by rw [HS.out]; exact KB.out, KG.out⟩
      case measure => simp [intOf]; omega
    · obtain rfl : j = 8 := by omega
      have HB := Lib.hid hb
      have HG := Lib.hid hg
      clear hb hg
      go_wp2_with (fail)
      exact HQ.out _ _ _ _ _ _ _ _ _ _ HB HG
end Go.Proofs.YtmoffodmbbkolaaDoor
