/- poly's times: its loops. Conditions: five limbs each, of the one below 2^28, of the other below 2^26. -/
import Derived.Test.YtlcpplnajaldgaaLPlus
namespace Go.Proofs.Ytlcpplnajaldgaa
open Go.RowKit

def TmiRel (w : World) (B i : Nat) (ns rs : List Nat) (T : TypeId) (v : Value) (W : World) : Prop := ∃ (k : Nat) (out : List Nat), v = .int .i64 (k : Int) ∧ k ≤ 5 ∧ MulP ns rs out i k ∧ Blk W B T (out.map wq) ∧ Sole w W B
noncomputable def body_tmi : Code := (((Try.f24.body.map loopsOf).getD [])[1]?).getD .skip
set_option maxRecDepth 100000 in
set_option maxHeartbeats 4000000 in
theorem tmi_loop (c0 c1 c4 c7 c8 c9 c10 c12 c13 c14 c15 c16 c17 c18 c19 c20 c21 c22 c23 c24 c25 c26 c27 c28 c29 c30 c31 c32 c33 c34 c35 c36 c37 c38 c39 c40 c41 c42 c43 c44 c45 c46 c47 c48 c49 c50 c51 : Value) (N R B i : Nat) (T : TypeId) (ns rs out0 : List Nat) (w : World) (hi : i < 5) (hnl : Hid (ns.length = 5)) (hrl : Hid (rs.length = 5)) (hnb : Hid (∀ q, q < 5 → ns.getD q 0 ≤ 268435455)) (hrb : Hid (∀ q, q < 5 → rs.getD q 0 ≤ 67108863)) (hp : Hid (MulP ns rs out0 i 0)) (hne1 : N ≠ B) (hne2 : R ≠ B)
    (hN : Hid (Blk w N T (ns.map wq))) (hR : Hid (Blk w R T (rs.map wq))) (h0 : Hid (Blk w B T (out0.map wq))) {Q : Exit → Act → World → Prop}
    (HQ : Hid (∀ (u7 u11 u12 u13 u14 u15 u16 u17 u18 u19 u20 u21 u22 u23 u24 u25 u26 u27 u28 u29 u30 u31 u32 u33 u34 u35 u36 u37 u38 u39 u40 u41 u42 u43 u44 u45 u46 u47 u48 : Value) (out : List Nat) (wx : World), Hid (MulP ns rs out i 5) → Hid (Blk wx B T (out.map wq)) → Hid (Sole w wx B) → Q (.exit 2) ⟨List.toArray (c0 :: c1 :: (.pointer (some ⟨N, 0, none⟩)) :: (.pointer (some ⟨R, 0, none⟩)) :: c4 :: (.pointer (some ⟨B, 0, none⟩)) :: (.int .i64 (i : Int)) :: u7 :: c8 :: c9 :: c10 :: u11 :: u12 :: u13 :: u14 :: u15 :: u16 :: u17 :: u18 :: u19 :: u20 :: u21 :: u22 :: u23 :: u24 :: u25 :: u26 :: u27 :: u28 :: u29 :: u30 :: u31 :: u32 :: u33 :: u34 :: u35 :: u36 :: u37 :: u38 :: u39 :: u40 :: u41 :: u42 :: u43 :: u44 :: u45 :: u46 :: u47 :: u48 :: c49 :: c50 :: c51 :: []), []⟩ wx)) :
    (Code.loop body_tmi).wp Try.prog Q ⟨List.toArray (c0 :: c1 :: (.pointer (some ⟨N, 0, none⟩)) :: (.pointer (some ⟨R, 0, none⟩)) :: c4 :: (.pointer (some ⟨B, 0, none⟩)) :: (.int .i64 (i : Int)) :: c7 :: c8 :: c9 :: c10 :: (.int .i64 0) :: c12 :: c13 :: c14 :: c15 :: c16 :: c17 :: c18 :: c19 :: c20 :: c21 :: c22 :: c23 :: c24 :: c25 :: c26 :: c27 :: c28 :: c29 :: c30 :: c31 :: c32 :: c33 :: c34 :: c35 :: c36 :: c37 :: c38 :: c39 :: c40 :: c41 :: c42 :: c43 :: c44 :: c45 :: c46 :: c47 :: c48 :: c49 :: c50 :: c51 :: []), []⟩ w := by
  have iI : (i : Int) < 5 := by omega
  unfold body_tmi
  conv => arg 2; arg 1; whnf
  go_loopw [11] (fun v wx => TmiRel w B i ns rs T v wx) (fun v _ => 5 - (intOf v).toNat)
  case atStart => exact ⟨0, out0, rfl, by omega, hp.out, h0.out, Sole.refl _ _⟩
  case round =>
    obtain ⟨k, out, rfl, hk, hpp, hblk, so⟩ := hrel
    have HP := Lib.hid hpp
    by_cases hlt : k < 5
    · have kI : (k : Int) < 5 := by omega
      obtain ⟨x, hx⟩ : ∃ x, x = ns.getD i 0 := ⟨_, rfl⟩
      obtain ⟨y, hy⟩ : ∃ y, y = rs.getD k 0 := ⟨_, rfl⟩
      have xl : x ≤ 268435455 := by rw [hx]; exact hnb.out i hi
      have yl : y ≤ 67108863 := by rw [hy]; exact hrb.out k hlt
      have cx := rq_cell (so.blk hN.out hne1) (i := i) (by rw [hnl.out]; exact hi)
      have cy := rq_cell (so.blk hR.out hne2) (i := k) (by rw [hrl.out]; exact hlt)
      rw [← hx] at cx
      rw [← hy] at cy
      obtain ⟨p, hpz⟩ : ∃ p, p = x * y := ⟨_, rfl⟩
      have pl : p ≤ 18014398509481984 := by
        have h6 : (268435455 * 67108863 : Nat) ≤ 18014398509481984 := by decide
        rw [hpz]
        exact Nat.le_trans (Nat.mul_le_mul xl yl) h6
      have a1 : (x : Int) * (y : Int) = (p : Int) := by rw [hpz]; simp
      have HB := Lib.hid hblk
      have HL := Lib.hid so
      by_cases h5 : i + k < 5
      · obtain ⟨j, hj⟩ : ∃ j, j = i + k := ⟨_, rfl⟩
        have j5 : j < 5 := by omega
        obtain ⟨e, he⟩ : ∃ e, e = out.getD j 0 := ⟨_, rfl⟩
        have el : e ≤ 1152921504606846976 := by
          have h4 := hpp.2.2 j j5
          rw [← he] at h4
          have h7 : i * mlC ≤ 5 * mlC := Nat.mul_le_mul_right _ (by omega)
          have h6 : 5 * mlC + mlC ≤ 1152921504606846976 := by decide
          split at h4 <;> omega
        have ce := rq_cell hblk (i := j) (by rw [hpp.1]; exact j5)
        rw [← he] at ce
        have f0 : wr.frozen? ⟨B, j, none⟩ = false := hblk.free _
        have HN := Lib.hid (mul_step hpp hi hlt hrl.out hx hy xl yl (j := j) (z := p) (by rw [if_pos h5]; exact hj) (by rw [if_pos h5]; exact hpz))
        rw [← he] at HN
        have jI : (j : Int) < 5 := by omega
        have a0 : (i : Int) + (k : Int) = (j : Int) := by clear a1; omega
        have a00 : IntKind.i64.wrap (j : Int) = (j : Int) := IntWalk.i64_in _ (by clear a0 a1; omega)
        have a2 : IntKind.u64.wrap (p : Int) = (p : Int) := IntWalk.u64_in _ (by clear a0 a00 a1; omega)
        have a3 : IntKind.u64.wrap ((e : Int) + (p : Int)) = (e : Int) + (p : Int) := IntWalk.u64_in _ (by clear a0 a00 a1 a2; omega)
        clear hx hy hpz he hj hpp hblk so hk xl yl el pl j5 h5
        go_wp2_with (fail)
        go_still_tail 14, (by kernel_rfl)
        change wpList _ _ _ _ _ wr.drew
        go_wp2_with (fail)
        clear a0 a00 a1 a2 a3
        go_roundw
        case rel =>
          have h := (HB.out.set j (wq (e + p))).drew
          rw [← List.map_set] at h
          have e7 : Value.int .u64 ((e : Int) + (p : Int)) = wq (e + p) := congrArg (Value.int .u64) (by omega)
          rw [e7]
          exact ⟨k + 1, _, by go_num, by omega, HN.out, h, sole_drew (HL.out.trans (Sole.setCell wr B j _))⟩
        case measure => simp [intOf]; omega
      · obtain ⟨s, hs⟩ : ∃ s, s = i + k := ⟨_, rfl⟩
        obtain ⟨j, hj⟩ : ∃ j, j = s - 5 := ⟨_, rfl⟩
        have s5 : 5 ≤ s := by omega
        have j5 : j < 5 := by omega
        obtain ⟨e, he⟩ : ∃ e, e = out.getD j 0 := ⟨_, rfl⟩
        have el : e ≤ 1152921504606846976 := by
          have h4 := hpp.2.2 j j5
          rw [← he] at h4
          have h7 : i * mlC ≤ 5 * mlC := Nat.mul_le_mul_right _ (by omega)
          have h6 : 5 * mlC + mlC ≤ 1152921504606846976 := by decide
          split at h4 <;> omega
        have ce := rq_cell hblk (i := j) (by rw [hpp.1]; exact j5)
        rw [← he] at ce
        have f0 : wr.frozen? ⟨B, j, none⟩ = false := hblk.free _
        have HN := Lib.hid (mul_step hpp hi hlt hrl.out hx hy xl yl (j := j) (z := p * 5) (by rw [if_neg h5, ← hs]; exact hj) (by rw [if_neg h5, hpz]))
        rw [← he] at HN
        have jI : (j : Int) < 5 := by omega
        have a0 : (i : Int) + (k : Int) = (s : Int) := by clear a1; omega
        have sI : ¬ (s : Int) < 5 := by clear a1 a0; omega
        have sl : (s : Int) ≤ 8 := by clear a1 a0; omega
        have b0 : (s : Int) - 5 = (j : Int) := by clear a1 a0; omega
        have a00 : IntKind.i64.wrap (s : Int) = (s : Int) := IntWalk.i64_in _ (by clear a0 a1 b0; omega)
        have b00 : IntKind.i64.wrap (j : Int) = (j : Int) := IntWalk.i64_in _ (by clear a0 a1 b0 a00; omega)
        have a2 : IntKind.u64.wrap (p : Int) = (p : Int) := IntWalk.u64_in _ (by clear a0 a00 a1 b0 b00; omega)
        have a4 : IntKind.u64.wrap ((p : Int) * 5) = (p : Int) * 5 := IntWalk.u64_in _ (by clear a0 a00 a1 a2 b0 b00; omega)
        have a3 : IntKind.u64.wrap ((e : Int) + (p : Int) * 5) = (e : Int) + (p : Int) * 5 := IntWalk.u64_in _ (by clear a0 a00 a1 a2 a4 b0 b00; omega)
        clear hx hy hpz he hj hs hpp hblk so hk xl yl el pl j5 h5 s5
        go_wp2_with (fail)
        go_still_tail 16, (by kernel_rfl)
        change wpList _ _ _ _ _ wr.drew
        go_wp2_with (fail)
        clear a0 a00 a1 a2 a3 a4 b0 b00
        go_roundw
        case rel =>
          have h := (HB.out.set j (wq (e + p * 5))).drew
          rw [← List.map_set] at h
          have e7 : Value.int .u64 ((e : Int) + (p : Int) * 5) = wq (e + p * 5) := congrArg (Value.int .u64) (by omega)
          rw [e7]
          exact ⟨k + 1, _, by go_num, by omega, HN.out, h, sole_drew (HL.out.trans (Sole.setCell wr B j _))⟩
        case measure => simp [intOf]; omega
    · obtain rfl : k = 5 := by omega
      have HB := Lib.hid hblk
      have HL := Lib.hid so
      clear hblk so hpp
      go_wp2_with (fail)
      exact HQ.out _ _ _ _ _ _ _ _ _ _ _ _ _ _ _ _ _ _ _ _ _ _ _ _ _ _ _ _ _ _ _ _ _ _ _ _ _ _ _ out _ HP HB HL
def TmoRel (w : World) (B : Nat) (ns rs : List Nat) (T : TypeId) (v : Value) (W : World) : Prop := ∃ (i : Nat) (out : List Nat), v = .int .i64 (i : Int) ∧ i ≤ 5 ∧ MulP ns rs out i 0 ∧ Blk W B T (out.map wq) ∧ Sole w W B
noncomputable def body_tmo : Code := (((Try.f24.body.map loopsOf).getD [])[0]?).getD .skip
set_option maxRecDepth 100000 in
set_option maxHeartbeats 2000000 in
theorem tmo_loop (c0 c1 c4 c6 c7 c9 c10 c11 c12 c13 c14 c15 c16 c17 c18 c19 c20 c21 c22 c23 c24 c25 c26 c27 c28 c29 c30 c31 c32 c33 c34 c35 c36 c37 c38 c39 c40 c41 c42 c43 c44 c45 c46 c47 c48 c49 c50 c51 : Value) (N R B : Nat) (T : TypeId) (ns rs : List Nat) (w : World) (hnl : Hid (ns.length = 5)) (hrl : Hid (rs.length = 5)) (hnb : Hid (∀ q, q < 5 → ns.getD q 0 ≤ 268435455)) (hrb : Hid (∀ q, q < 5 → rs.getD q 0 ≤ 67108863)) (hne1 : N ≠ B) (hne2 : R ≠ B)
    (hN : Hid (Blk w N T (ns.map wq))) (hR : Hid (Blk w R T (rs.map wq))) (h0 : Hid (Blk w B T ((List.replicate 5 0).map wq))) {Q : Exit → Act → World → Prop}
    (HQ : Hid (∀ (u6 u7 u8 u9 u10 u11 u12 u13 u14 u15 u16 u17 u18 u19 u20 u21 u22 u23 u24 u25 u26 u27 u28 u29 u30 u31 u32 u33 u34 u35 u36 u37 u38 u39 u40 u41 u42 u43 u44 u45 u46 u47 u48 u49 : Value) (out : List Nat) (wx : World), Hid (MulP ns rs out 5 0) → Hid (Blk wx B T (out.map wq)) → Hid (Sole w wx B) → Q (.exit 0) ⟨List.toArray (c0 :: c1 :: (.pointer (some ⟨N, 0, none⟩)) :: (.pointer (some ⟨R, 0, none⟩)) :: c4 :: (.pointer (some ⟨B, 0, none⟩)) :: u6 :: u7 :: u8 :: u9 :: u10 :: u11 :: u12 :: u13 :: u14 :: u15 :: u16 :: u17 :: u18 :: u19 :: u20 :: u21 :: u22 :: u23 :: u24 :: u25 :: u26 :: u27 :: u28 :: u29 :: u30 :: u31 :: u32 :: u33 :: u34 :: u35 :: u36 :: u37 :: u38 :: u39 :: u40 :: u41 :: u42 :: u43 :: u44 :: u45 :: u46 :: u47 :: u48 :: u49 :: c50 :: c51 :: []), []⟩ wx)) :
    (Code.loop body_tmo).wp Try.prog Q ⟨List.toArray (c0 :: c1 :: (.pointer (some ⟨N, 0, none⟩)) :: (.pointer (some ⟨R, 0, none⟩)) :: c4 :: (.pointer (some ⟨B, 0, none⟩)) :: c6 :: c7 :: (.int .i64 0) :: c9 :: c10 :: c11 :: c12 :: c13 :: c14 :: c15 :: c16 :: c17 :: c18 :: c19 :: c20 :: c21 :: c22 :: c23 :: c24 :: c25 :: c26 :: c27 :: c28 :: c29 :: c30 :: c31 :: c32 :: c33 :: c34 :: c35 :: c36 :: c37 :: c38 :: c39 :: c40 :: c41 :: c42 :: c43 :: c44 :: c45 :: c46 :: c47 :: c48 :: c49 :: c50 :: c51 :: []), []⟩ w := by
  unfold body_tmo
  conv => arg 2; arg 1; whnf
  go_loopw [8] (fun v wx => TmoRel w B ns rs T v wx) (fun v _ => 5 - (intOf v).toNat)
  case atStart => exact ⟨0, List.replicate 5 0, rfl, by omega, mul_zero ns rs, h0.out, Sole.refl _ _⟩
  case round =>
    obtain ⟨i, out, rfl, hi, hpp, hblk, so⟩ := hrel
    have HP := Lib.hid hpp
    have HB := Lib.hid hblk
    have HL := Lib.hid so
    clear hblk so hpp
    by_cases hlt : i < 5
    · have hI : (i : Int) < 5 := by omega
      have NC := Lib.hid (HL.out.blk hN.out hne1)
      have RC := Lib.hid (HL.out.blk hR.out hne2)
      go_wp2_with (fail)
      refine tmi_loop _ _ _ _ _ _ _ _ _ _ _ _ _ _ _ _ _ _ _ _ _ _ _ _ _ _ _ _ _ _ _ _ _ _ _ _ _ _ _ _ _ _ _ _ _ _ _ N R B i T ns rs out wr hlt hnl hrl hnb hrb HP hne1 hne2 NC RC HB (Lib.hid ?_)
      intro u7 u11 u12 u13 u14 u15 u16 u17 u18 u19 u20 u21 u22 u23 u24 u25 u26 u27 u28 u29 u30 u31 u32 u33 u34 u35 u36 u37 u38 u39 u40 u41 u42 u43 u44 u45 u46 u47 u48 out2 w2 hp2 hb2 hs2
      go_wp2_with (fail)
      go_roundw
      case rel => exact ⟨i + 1, out2, by go_num, by omega, mul_next hp2.out hlt hnl.out hrl.out, hb2.out, HL.out.trans hs2.out⟩
      case measure => simp [intOf]; omega
    · obtain rfl : i = 5 := by omega
      go_wp2_with (fail)
      exact HQ.out _ _ _ _ _ _ _ _ _ _ _ _ _ _ _ _ _ _ _ _ _ _ _ _ _ _ _ _ _ _ _ _ _ _ _ _ _ _ _ _ _ _ _ _ out _ HP HB HL
end Go.Proofs.Ytlcpplnajaldgaa
