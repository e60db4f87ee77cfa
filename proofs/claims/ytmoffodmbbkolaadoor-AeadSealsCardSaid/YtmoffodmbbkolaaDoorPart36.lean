/- Part 36 of the words that the laws share: CBlkB. No condition of its own: each theorem says its own. -/
import Derived.Test.YtmoffodmbbkolaaDoorPart9

/- chacha's block: the rounds, and the loops that lay the sums as bytes. Conditions: sixteen words that fit; the table of the places as it is laid. -/
namespace Go.Proofs.YtmoffodmbbkolaaDoor
open Go.RowKit

theorem u32_desc : Tryd.prog.underlying 47 = some (.int .u32) := by kernel_rfl
theorem index_arr (ds : List Nat) (h16 : ds.length = 16) (i : Nat) (hi : i < 16) (W : World) : (Instr.index 59 (.agg (ds.map wv).toArray) (.int .i64 (i : Int))).run Tryd.prog W = .ok (.int .u32 ((ds.getD i 0 : Nat) : Int)) W := by
  obtain ⟨i3, k0, k1, k2, k3⟩ := info_parts info_w32
  have hs : (sizeOf 47).run Tryd.prog W = .ok 1 W := by simp [sizeOf, typeInfo, k0, k2]
  obtain ⟨x, hx⟩ : ∃ x, ds[i]? = some x := ⟨_, List.getElem?_eq_getElem (by omega)⟩
  have e : ds.getD i 0 = x := by rw [List.getD, hx]; rfl
  rw [e]
  simp [Instr.index, run_underlying Tryd.underlying59, asIntOf, part, hs, hx, hi, wv, isAgg, run_underlying u32_desc]
def RndRel (G : Nat) (T : TypeId) (ws : List Nat) (w : World) (i : Value) (W : World) : Prop :=
  ∃ j : Nat, i = .int .i64 (j : Int) ∧ j ≤ 10 ∧ Blk W G T ((dblN ws j).map wv) ∧ w.grownBy W (some G)
noncomputable def body_rnd : Code := (((Tryd.f28.body.map loopsOf).getD [])[0]?).getD .skip
set_option maxRecDepth 100000 in
set_option maxHeartbeats 1000000 in
theorem rnd_loop (c0 c1 c2 c4 c5 c6 c7 c8 c9 c10 c12 c13 c14 c15 c16 c17 c18 c19 c20 c21 c22 c23 c24 c25 c26 c27 c28 c29 c30 c31 c32 c33 c34 c35 c36 c37 c38 c39 c40 c41 c42 c43 c44 c45 c46 c47 : Value) (G : Nat) (T : TypeId) (ws : List Nat) (w : World) (h0 : 0 < G) (ho : Hid (Blk w G T (ws.map wv))) (hok : Hid (okW ws)) (hq : Hid (Qs w)) {Q : Exit → Act → World → Prop}
    (HQ : Hid (∀ (u4 u11 u12 u13 u14 u15 u16 u17 u18 u19 u20 u21 : Value) (wx : World), Hid (Blk wx G T ((dblN ws 10).map wv)) → Hid (w.grownBy wx (some G)) → Q (.exit 0) ⟨List.toArray (c0 :: c1 :: c2 :: (.pointer (some ⟨G, 0, none⟩)) :: u4 :: c5 :: c6 :: c7 :: c8 :: c9 :: c10 :: u11 :: u12 :: u13 :: u14 :: u15 :: u16 :: u17 :: u18 :: u19 :: u20 :: u21 :: c22 :: c23 :: c24 :: c25 :: c26 :: c27 :: c28 :: c29 :: c30 :: c31 :: c32 :: c33 :: c34 :: c35 :: c36 :: c37 :: c38 :: c39 :: c40 :: c41 :: c42 :: c43 :: c44 :: c45 :: c46 :: c47 :: []), []⟩ wx)) :
    (Code.loop body_rnd).wp Tryd.prog Q ⟨List.toArray (c0 :: c1 :: c2 :: (.pointer (some ⟨G, 0, none⟩)) :: c4 :: c5 :: c6 :: c7 :: c8 :: c9 :: c10 :: (.int .i64 0) :: c12 :: c13 :: c14 :: c15 :: c16 :: c17 :: c18 :: c19 :: c20 :: c21 :: c22 :: c23 :: c24 :: c25 :: c26 :: c27 :: c28 :: c29 :: c30 :: c31 :: c32 :: c33 :: c34 :: c35 :: c36 :: c37 :: c38 :: c39 :: c40 :: c41 :: c42 :: c43 :: c44 :: c45 :: c46 :: c47 :: []), []⟩ w := by
  unfold body_rnd
  conv => arg 2; arg 1; whnf
  go_loopw [11] (fun i wx => RndRel G T ws w i wx) (fun i _ => 10 - (intOf i).toNat)
  case atStart => exact ⟨0, rfl, by omega, ho.out, ⟨rfl, rfl, rfl, Nat.le_refl _, fun _ _ _ => rfl⟩⟩
  case round =>
    obtain ⟨j, rfl, hj, hb, hg⟩ := hrel
    have HB := Lib.hid hb
    have HG := Lib.hid hg
    clear hb hg
    by_cases hlt : j < 10
    · have hI : (j : Int) < 10 := by omega
      have HQ1 := Lib.hid (hq.out.grew HG.out h0)
      have OK := Lib.hid (dblN_ok hok.out j)
      clear hj
      go_wp2_with (fail)
      refine qua_loop _ _ _ _ _ _ _ _ _ _ _ _ _ _ _ _ _ _ _ _ _ _ _ _ _ _ _ _ _ _ _ _ _ _ _ _ _ _ _ _ _ _ _ _ _ _ G T (dblN ws j) _ h0 HB OK HQ1 (Lib.hid ?_)
      intro u4 u13 u14 u15 u16 u17 u18 u19 u20 w1 hb1 hg1
      go_wp2_with (fail)
      go_roundw
      case rel => exact ⟨j + 1, by go_num, by omega, hb1.out, grown_trans HG.out hg1.out⟩
      case measure => simp [intOf]; omega
    · obtain rfl : j = 10 := by omega
      go_wp2_with (fail)
      exact HQ.out _ _ _ _ _ _ _ _ _ _ _ _ _ HB HG
/-- Bytes, and zeros behind them, to 64. -/
def padC (l : List UInt8) : List Value := (l ++ List.replicate (64 - l.length) 0).map bv
theorem padC_length {l : List UInt8} (h : l.length ≤ 64) : (padC l).length = 64 := by unfold padC; simp; omega
theorem padC_set {l : List UInt8} (h : l.length < 64) (x : UInt8) : (padC l).set l.length (bv x) = padC (l ++ [x]) := by
  unfold padC
  rw [← List.map_set, List.set_append_right _ _ (Nat.le_refl _), Nat.sub_self, List.length_append, List.length_singleton, show 64 - l.length = (64 - (l.length + 1)) + 1 by omega, List.replicate_succ, List.set_cons_zero]
  simp
def BytRel (N : Nat) (T : TypeId) (pre : List UInt8) (n : Nat) (w : World) (v : Value) (W : World) : Prop :=
  ∃ j : Nat, v = .int .i64 (j : Int) ∧ j ≤ 4 ∧ Blk W N T (padC (pre ++ leB j n)) ∧ Sole w W N
noncomputable def body_byt : Code := (((Tryd.f28.body.map loopsOf).getD [])[3]?).getD .skip
set_option maxRecDepth 100000 in
set_option maxHeartbeats 1000000 in
theorem byt_loop (c0 c1 c2 c3 c4 c7 c9 c10 c11 c12 c13 c14 c15 c16 c17 c18 c19 c20 c21 c22 c23 c24 c25 c26 c27 c28 c29 c30 c31 c33 c34 c35 c36 c37 c38 c39 c40 c41 c42 c43 c44 c45 c46 c47 : Value) (N : Nat) (T : TypeId) (pre : List UInt8) (i n : Nat) (hi : i < 16) (hp : Hid (pre.length = 4 * i)) (hn : n < 4294967296) (w : World) (h0 : Hid (Blk w N T (padC pre))) {Q : Exit → Act → World → Prop}
    (HQ : Hid (∀ (u9 u32 u33 u34 u35 u36 u37 u38 u39 u40 u41 u42 u43 u44 u45 : Value) (wx : World), Hid (Blk wx N T (padC (pre ++ leB 4 n))) → Hid (Sole w wx N) → Q (.exit 6) ⟨List.toArray (c0 :: c1 :: c2 :: c3 :: c4 :: (.pointer (some ⟨N, 0, none⟩)) :: (.int .i64 (i : Int)) :: c7 :: (.int .u32 (n : Int)) :: u9 :: c10 :: c11 :: c12 :: c13 :: c14 :: c15 :: c16 :: c17 :: c18 :: c19 :: c20 :: c21 :: c22 :: c23 :: c24 :: c25 :: c26 :: c27 :: c28 :: c29 :: c30 :: c31 :: u32 :: u33 :: u34 :: u35 :: u36 :: u37 :: u38 :: u39 :: u40 :: u41 :: u42 :: u43 :: u44 :: u45 :: c46 :: c47 :: []), []⟩ wx)) :
    (Code.loop body_byt).wp Tryd.prog Q ⟨List.toArray (c0 :: c1 :: c2 :: c3 :: c4 :: (.pointer (some ⟨N, 0, none⟩)) :: (.int .i64 (i : Int)) :: c7 :: (.int .u32 (n : Int)) :: c9 :: c10 :: c11 :: c12 :: c13 :: c14 :: c15 :: c16 :: c17 :: c18 :: c19 :: c20 :: c21 :: c22 :: c23 :: c24 :: c25 :: c26 :: c27 :: c28 :: c29 :: c30 :: c31 :: (.int .i64 0) :: c33 :: c34 :: c35 :: c36 :: c37 :: c38 :: c39 :: c40 :: c41 :: c42 :: c43 :: c44 :: c45 :: c46 :: c47 :: []), []⟩ w := by
  have hiI : (i : Int) < 16 := by omega
  have nI : (n : Int) ≤ 4294967295 := by omega
  unfold body_byt
  conv => arg 2; arg 1; whnf
  go_loopw [32] (fun v wx => BytRel N T pre n w v wx) (fun v _ => 4 - (intOf v).toNat)
  case atStart => exact ⟨0, rfl, by omega, by simpa [leB] using h0.out, Sole.refl _ _⟩
  case round =>
    obtain ⟨j, rfl, hj, hblk, so⟩ := hrel
    by_cases hlt : j < 4
    · have hI : (j : Int) < 4 := by omega
      have LL : Hid ((pre ++ leB j n).length = 4 * i + j) := by show _ = _; rw [List.length_append, leB_length, hp.out]
      have f0 : wr.frozen? ⟨N, 4 * i + j, none⟩ = false := hblk.free _
      obtain ⟨u, hu⟩ : ∃ u, wr.cell? ⟨N, 4 * i + j, none⟩ = some u := by
        refine ⟨(padC (pre ++ leB j n))[4 * i + j]'?_, ?_⟩
        · rw [padC_length (by rw [LL.out]; omega)]; omega
        · rw [hblk.cell]; exact List.getElem?_eq_getElem _
      have HE := Lib.hid (padC_set (l := pre ++ leB j n) (by rw [LL.out]; omega) (UInt8.ofNat (n / 256 ^ j % 256)))
      have HB := Lib.hid hblk
      have HL := Lib.hid so
      have j1 : (i : Int) * 4 + (j : Int) < 64 := by omega
      have j3 : ((i : Int) * 4 + (j : Int)).toNat = 4 * i + j := by omega
      have j4 : ((8 : Int) * (j : Int)).toNat = 8 * j := by omega
      have j5 : (8 : Int) * (j : Int) < 32 := by omega
      clear hblk so hj
      go_wp2_with (fail)
      go_roundw
      case rel =>
        have e : Value.int .u8 ((n : Int) / 2 ^ (8 * j) % 256) = bv (UInt8.ofNat (n / 256 ^ j % 256)) := congrArg (Value.int .u8) (byte_of n j)
        rw [e]
        have h := HB.out.set (4 * i + j) (bv (UInt8.ofNat (n / 256 ^ j % 256)))
        have h2 := HE.out
        rw [LL.out] at h2
        rw [h2, List.append_assoc, ← leB_snoc] at h
        exact ⟨j + 1, by go_num, by omega, h, HL.out.trans (Sole.setCell _ N _ _)⟩
      case measure => simp [intOf]; omega
    · obtain rfl : j = 4 := by omega
      have HB := Lib.hid hblk
      have HL := Lib.hid so
      clear hblk so
      go_wp2_with (fail)
      exact HQ.out _ _ _ _ _ _ _ _ _ _ _ _ _ _ _ _ HB HL
def WdsRel (N : Nat) (T : TypeId) (s ws : List Nat) (w : World) (v : Value) (W : World) : Prop :=
  ∃ i : Nat, v = .int .i64 (i : Int) ∧ i ≤ 16 ∧ Blk W N T (padC (chaOut s ws i)) ∧ Sole w W N
noncomputable def body_wds : Code := (((Tryd.f28.body.map loopsOf).getD [])[2]?).getD .skip
set_option maxRecDepth 100000 in
set_option maxHeartbeats 1000000 in
theorem wds_loop (c0 c2 c3 c4 c6 c7 c8 c9 c10 c11 c12 c13 c14 c15 c16 c17 c18 c19 c20 c21 c24 c25 c26 c27 c28 c29 c30 c31 c32 c33 c34 c35 c36 c37 c38 c39 c40 c41 c42 c43 c44 c45 c46 c47 : Value) (N B : Nat) (T T2 : TypeId) (s ws : List Nat) (hs : Hid (okW s)) (hw : Hid (okW ws)) (w : World) (hne : B ≠ N) (hbs : Hid (Blk w B T2 (s.map wv))) (h0 : Hid (Blk w N T (padC []))) {Q : Exit → Act → World → Prop}
    (HQ : Hid (∀ (u6 u7 u8 u9 u23 u24 u25 u26 u27 u28 u29 u30 u31 u32 u33 u34 u35 u36 u37 u38 u39 u40 u41 u42 u43 u44 u45 u46 : Value) (wx : World), Hid (Blk wx N T (padC (chaOut s ws 16))) → Hid (Sole w wx N) → Q (.exit 4) ⟨List.toArray (c0 :: (.pointer (some ⟨B, 0, none⟩)) :: c2 :: c3 :: c4 :: (.pointer (some ⟨N, 0, none⟩)) :: u6 :: u7 :: u8 :: u9 :: c10 :: c11 :: c12 :: c13 :: c14 :: c15 :: c16 :: c17 :: c18 :: c19 :: c20 :: c21 :: (.agg (ws.map wv).toArray) :: u23 :: u24 :: u25 :: u26 :: u27 :: u28 :: u29 :: u30 :: u31 :: u32 :: u33 :: u34 :: u35 :: u36 :: u37 :: u38 :: u39 :: u40 :: u41 :: u42 :: u43 :: u44 :: u45 :: u46 :: c47 :: []), []⟩ wx)) :
    (Code.loop body_wds).wp Tryd.prog Q ⟨List.toArray (c0 :: (.pointer (some ⟨B, 0, none⟩)) :: c2 :: c3 :: c4 :: (.pointer (some ⟨N, 0, none⟩)) :: c6 :: c7 :: c8 :: c9 :: c10 :: c11 :: c12 :: c13 :: c14 :: c15 :: c16 :: c17 :: c18 :: c19 :: c20 :: c21 :: (.agg (ws.map wv).toArray) :: (.int .i64 0) :: c24 :: c25 :: c26 :: c27 :: c28 :: c29 :: c30 :: c31 :: c32 :: c33 :: c34 :: c35 :: c36 :: c37 :: c38 :: c39 :: c40 :: c41 :: c42 :: c43 :: c44 :: c45 :: c46 :: c47 :: []), []⟩ w := by
  unfold body_wds
  conv => arg 2; arg 1; whnf
  go_loopw [23] (fun v wx => WdsRel N T s ws w v wx) (fun v _ => 16 - (intOf v).toNat)
  case atStart => exact ⟨0, rfl, by omega, h0.out, Sole.refl _ _⟩
  case round =>
    obtain ⟨i, rfl, hi, hblk, so⟩ := hrel
    by_cases hlt : i < 16
    · have hI : (i : Int) < 16 := by omega
      obtain ⟨x, hx⟩ : ∃ x, x = ws.getD i 0 := ⟨_, rfl⟩
      obtain ⟨y, hy⟩ : ∃ y, y = s.getD i 0 := ⟨_, rfl⟩
      have HX : ∀ W, (Instr.index 59 (.agg (ws.map wv).toArray) (.int .i64 (i : Int))).run Tryd.prog W = .ok (.int .u32 (x : Int)) W := fun W => by rw [hx]; exact index_arr ws hw.out.1 i hlt W
      have cy := at_getD (so.blk hbs.out hne) (by have := hs.out.1; omega) hy.symm
      have r1 : ((x : Int) + (y : Int)) % 4294967296 = (((x + y) % 4294967296 : Nat) : Int) := by omega
      have HS : Hid (chaOut s ws (i + 1) = chaOut s ws i ++ leB 4 ((x + y) % 4294967296)) := Lib.hid (by rw [chaOut, hx, hy])
      obtain ⟨n, hn⟩ : ∃ n, n = (x + y) % 4294967296 := ⟨_, rfl⟩
      rw [← hn] at r1 HS
      have hnl : n < 4294967296 := by rw [hn]; exact Nat.mod_lt _ (by omega)
      have HP : Hid ((chaOut s ws i).length = 4 * i) := Lib.hid (chaOut_length _ _ _)
      have HB := Lib.hid hblk
      have HL := Lib.hid so
      have HN := Lib.hid hnl
      have R1 := Lib.hid r1
      clear hblk so hi hx hy hn hnl r1
      go_wp2_with (fail)
      rw [R1.out]
      refine byt_loop _ _ _ _ _ _ _ _ _ _ _ _ _ _ _ _ _ _ _ _ _ _ _ _ _ _ _ _ _ _ _ _ _ _ _ _ _ _ _ _ _ _ _ _ N T (chaOut s ws i) i n hlt HP HN.out wr HB (Lib.hid ?_)
      intro u9 u32 u33 u34 u35 u36 u37 u38 u39 u40 u41 u42 u43 u44 u45 w1 hb1 hl1
      clear cy
      go_wp2_with (fail)
      go_roundw
      case rel => exact ⟨i + 1, by go_num, by omega, by rw [HS.out]; exact hb1.out, HL.out.trans hl1.out⟩
      case measure => simp [intOf]; omega
    · obtain rfl : i = 16 := by omega
      have HB := Lib.hid hblk
      have HL := Lib.hid so
      clear hblk so
      go_wp2_with (fail)
      exact HQ.out _ _ _ _ _ _ _ _ _ _ _ _ _ _ _ _ _ _ _ _ _ _ _ _ _ _ _ _ _ HB HL
end Go.Proofs.YtmoffodmbbkolaaDoor
