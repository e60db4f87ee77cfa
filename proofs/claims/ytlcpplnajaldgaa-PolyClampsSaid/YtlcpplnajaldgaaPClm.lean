/- The fifth layer's law of the clamped bits: its two loops, which lay other bits in a key. Conditions: a key of 32 bytes, 16 others. -/
import Derived.Test.YtlcpplnajaldgaaPolSpec
import Derived.StillTailTactics
import Derived.IntWalk
namespace Go.Proofs.Ytlcpplnajaldgaa
open Go.RowKit

theorem mix_a (x y : UInt8) : bits .or .u8 (bits .and .u8 (x.toNat : Int) 15) (bits .and .u8 (y.toNat : Int) 240) = ((((x &&& 15) ||| (y &&& 240)).toNat : Nat) : Int) := by
  have h1 := u8_and_nat x.toNat 15 x.toNat_lt (by decide)
  have h2 := u8_and_nat y.toNat 240 y.toNat_lt (by decide)
  have h3 := u8_or_nat (x &&& 15).toNat (y &&& 240).toNat (UInt8.toNat_lt _) (UInt8.toNat_lt _)
  rw [UInt8.toNat_or, ← h3, UInt8.toNat_and, UInt8.toNat_and]
  exact congr (congrArg _ h1) h2
theorem mix_b (x y : UInt8) : bits .or .u8 (bits .and .u8 (x.toNat : Int) 252) (bits .and .u8 (y.toNat : Int) 3) = ((((x &&& 252) ||| (y &&& 3)).toNat : Nat) : Int) := by
  have h1 := u8_and_nat x.toNat 252 x.toNat_lt (by decide)
  have h2 := u8_and_nat y.toNat 3 y.toNat_lt (by decide)
  have h3 := u8_or_nat (x &&& 252).toNat (y &&& 3).toNat (UInt8.toNat_lt _) (UInt8.toNat_lt _)
  rw [UInt8.toNat_or, ← h3, UInt8.toNat_and, UInt8.toNat_and]
  exact congr (congrArg _ h1) h2
theorem rB_set {o : List UInt8} {i : Nat} {x : UInt8} (ho : o.length = 32) (hi : i < 16) (hx : clampC i x = clampC i (o[i]'(by omega))) : rB (o.set i x) = rB o := by
  unfold rB
  apply List.ext_getElem
  · simp
  intro q h1 h2
  rw [List.getElem_mapIdx, List.getElem_mapIdx, List.getElem_take, List.getElem_take, List.getElem_set]
  split
  · next e =>
    subst e
    exact hx
  · rfl
/-- A key that another one's clamped bits are of. -/
def LikeK (k o : List UInt8) : Prop := o.length = 32 ∧ rB o = rB k ∧ o.drop 16 = k.drop 16
theorem LikeK.set {k o : List UInt8} {i : Nat} {x : UInt8} (h : LikeK k o) (hi : i < 16) (hx : ∀ (hl : i < o.length), clampC i x = clampC i (o[i]'hl)) : LikeK k (o.set i x) :=
  ⟨by rw [List.length_set]; exact h.1, (rB_set h.1 hi (hx _)).trans h.2.1, by rw [List.drop_set_of_lt hi]; exact h.2.2⟩
def ClaRel (w : World) (OB : Nat) (k : List UInt8) (s : Nat) (v : Value) (W : World) : Prop := ∃ (i : Nat) (o : List UInt8), v = .int .i64 (i : Int) ∧ i % 4 = s % 4 ∧ s ≤ i ∧ i ≤ 19 ∧ LikeK k o ∧ Blk W OB 23 (o.map bv) ∧ Sole w W OB
noncomputable def body_cla : Code := (((Try.f6.body.map loopsOf).getD [])[0]?).getD .skip
set_option maxRecDepth 100000 in
set_option maxHeartbeats 2000000 in
theorem cla_loop (c0 c1 c2 c3 c4 c6 c9 c10 c11 c12 c13 c14 c15 c16 c17 c18 c19 c20 c21 c22 c23 c24 c25 c26 c27 c28 c29 c30 c31 c32 c33 c34 c35 c36 c37 c38 c39 c40 c41 c42 c43 c44 c45 c46 c47 c48 c49 c50 c51 c52 c53 c54 c55 c56 : Value) (BB OB : Nat) (T : TypeId) (k b o0 : List UInt8) (w : World) (hb : Hid (b.length = 16)) (hne : BB ≠ OB) (hbb : Hid (Blk w BB T (b.map bv))) (hk : Hid (LikeK k o0)) (h0 : Hid (Blk w OB 23 (o0.map bv))) {Q : Exit → Act → World → Prop}
    (HQ : Hid (∀ (u8 u15 u16 u17 u18 u19 u20 u21 u22 u23 u24 u25 u26 u27 u28 u29 : Value) (o : List UInt8) (wx : World), Hid (LikeK k o) → Hid (Blk wx OB 23 (o.map bv)) → Hid (Sole w wx OB) → Q (.exit 0) ⟨List.toArray (c0 :: c1 :: c2 :: c3 :: c4 :: (.pointer (some ⟨BB, 0, none⟩)) :: c6 :: (.pointer (some ⟨OB, 0, none⟩)) :: u8 :: c9 :: c10 :: c11 :: c12 :: c13 :: c14 :: u15 :: u16 :: u17 :: u18 :: u19 :: u20 :: u21 :: u22 :: u23 :: u24 :: u25 :: u26 :: u27 :: u28 :: u29 :: c30 :: c31 :: c32 :: c33 :: c34 :: c35 :: c36 :: c37 :: c38 :: c39 :: c40 :: c41 :: c42 :: c43 :: c44 :: c45 :: c46 :: c47 :: c48 :: c49 :: c50 :: c51 :: c52 :: c53 :: c54 :: c55 :: c56 :: []), []⟩ wx)) :
    (Code.loop body_cla).wp Try.prog Q ⟨List.toArray (c0 :: c1 :: c2 :: c3 :: c4 :: (.pointer (some ⟨BB, 0, none⟩)) :: c6 :: (.pointer (some ⟨OB, 0, none⟩)) :: (.int .i64 3) :: c9 :: c10 :: c11 :: c12 :: c13 :: c14 :: c15 :: c16 :: c17 :: c18 :: c19 :: c20 :: c21 :: c22 :: c23 :: c24 :: c25 :: c26 :: c27 :: c28 :: c29 :: c30 :: c31 :: c32 :: c33 :: c34 :: c35 :: c36 :: c37 :: c38 :: c39 :: c40 :: c41 :: c42 :: c43 :: c44 :: c45 :: c46 :: c47 :: c48 :: c49 :: c50 :: c51 :: c52 :: c53 :: c54 :: c55 :: c56 :: []), []⟩ w := by
  unfold body_cla
  conv => arg 2; arg 1; whnf
  go_loopw [8] (fun v wx => ClaRel w OB k 3 v wx) (fun v _ => 20 - (intOf v).toNat)
  case atStart => exact ⟨3, o0, rfl, rfl, by omega, by omega, hk.out, h0.out, Sole.refl _ _⟩
  case round =>
    obtain ⟨i, o, rfl, hm, h3, hi, hlk, hblk, so⟩ := hrel
    have HK := Lib.hid hlk
    have HB := Lib.hid hblk
    have HL := Lib.hid so
    by_cases hlt : i < 16
    · have hI : (i : Int) < 16 := by omega
      have hI32 : (i : Int) < 32 := by omega
      obtain ⟨x, hx⟩ : ∃ x, x = o[i]'(by rw [hlk.1]; omega) := ⟨_, rfl⟩
      obtain ⟨y, hy⟩ : ∃ y, y = b[i]'(by rw [hb.out]; omega) := ⟨_, rfl⟩
      have cx : wr.cell? ⟨OB, i, none⟩ = some (.int .u8 (x.toNat : Int)) := by
        rw [hblk.cell, List.getElem?_map, List.getElem?_eq_getElem (by rw [hlk.1]; omega), ← hx]
        rfl
      have cy : wr.cell? ⟨BB, i, none⟩ = some (.int .u8 (y.toNat : Int)) := by
        rw [(so.blk hbb.out hne).cell, List.getElem?_map, List.getElem?_eq_getElem (by rw [hb.out]; omega), ← hy]
        rfl
      have f0 : wr.frozen? ⟨OB, i, none⟩ = false := hblk.free _
      have HN : Hid (LikeK k (o.set i ((x &&& 15) ||| (y &&& 240)))) := Lib.hid (hlk.set hlt fun hl => by
        unfold clampC
        have e : i % 4 = 3 := by omega
        rw [if_pos e, if_pos e, clamp_a, hx])
      have HM := Lib.hid hm
      have HMX := Lib.hid (mix_a x y)
      clear hx hy hlk hblk so hm hi h3
      go_wp2_with (fail)
      go_still_tail 11, (by kernel_rfl)
      change wpList _ _ _ _ _ wr.drew
      go_wp2_with (fail)
      go_roundw
      case rel =>
        have h := HB.out.set i (bv ((x &&& 15) ||| (y &&& 240)))
        rw [← List.map_set] at h
        rw [HMX.out]
        exact ⟨i + 4, _, by go_num, by have := HM.out; omega, by have := HM.out; omega, by have := HM.out; omega, HN.out, h.drew, HL.out.trans ⟨(Sole.setCell wr OB i _).below.drew, (Sole.setCell wr OB i _).size, (Sole.setCell wr OB i _).other⟩⟩
      case measure => simp [intOf]; omega
    · obtain rfl : i = 19 := by omega
      clear hlk hblk so
      go_wp2_with (fail)
      exact HQ.out _ _ _ _ _ _ _ _ _ _ _ _ _ _ _ _ o _ HK HB HL
noncomputable def body_clb : Code := (((Try.f6.body.map loopsOf).getD [])[1]?).getD .skip
set_option maxRecDepth 100000 in
set_option maxHeartbeats 2000000 in
theorem clb_loop (c0 c1 c2 c3 c4 c6 c8 c10 c11 c12 c13 c14 c15 c16 c17 c18 c19 c20 c21 c22 c23 c24 c25 c26 c27 c28 c29 c30 c31 c32 c33 c34 c35 c36 c37 c38 c39 c40 c41 c42 c43 c44 c45 c46 c47 c48 c49 c50 c51 c52 c53 c54 c55 c56 : Value) (BB OB : Nat) (T : TypeId) (k b o0 : List UInt8) (w : World) (hb : Hid (b.length = 16)) (hne : BB ≠ OB) (hbb : Hid (Blk w BB T (b.map bv))) (hk : Hid (LikeK k o0)) (h0 : Hid (Blk w OB 23 (o0.map bv))) {Q : Exit → Act → World → Prop}
    (HQ : Hid (∀ (u9 u30 u31 u32 u33 u34 u35 u36 u37 u38 u39 u40 u41 u42 u43 u44 : Value) (o : List UInt8) (wx : World), Hid (LikeK k o) → Hid (Blk wx OB 23 (o.map bv)) → Hid (Sole w wx OB) → Q (.exit 2) ⟨List.toArray (c0 :: c1 :: c2 :: c3 :: c4 :: (.pointer (some ⟨BB, 0, none⟩)) :: c6 :: (.pointer (some ⟨OB, 0, none⟩)) :: c8 :: u9 :: c10 :: c11 :: c12 :: c13 :: c14 :: c15 :: c16 :: c17 :: c18 :: c19 :: c20 :: c21 :: c22 :: c23 :: c24 :: c25 :: c26 :: c27 :: c28 :: c29 :: u30 :: u31 :: u32 :: u33 :: u34 :: u35 :: u36 :: u37 :: u38 :: u39 :: u40 :: u41 :: u42 :: u43 :: u44 :: c45 :: c46 :: c47 :: c48 :: c49 :: c50 :: c51 :: c52 :: c53 :: c54 :: c55 :: c56 :: []), []⟩ wx)) :
    (Code.loop body_clb).wp Try.prog Q ⟨List.toArray (c0 :: c1 :: c2 :: c3 :: c4 :: (.pointer (some ⟨BB, 0, none⟩)) :: c6 :: (.pointer (some ⟨OB, 0, none⟩)) :: c8 :: (.int .i64 4) :: c10 :: c11 :: c12 :: c13 :: c14 :: c15 :: c16 :: c17 :: c18 :: c19 :: c20 :: c21 :: c22 :: c23 :: c24 :: c25 :: c26 :: c27 :: c28 :: c29 :: c30 :: c31 :: c32 :: c33 :: c34 :: c35 :: c36 :: c37 :: c38 :: c39 :: c40 :: c41 :: c42 :: c43 :: c44 :: c45 :: c46 :: c47 :: c48 :: c49 :: c50 :: c51 :: c52 :: c53 :: c54 :: c55 :: c56 :: []), []⟩ w := by
  unfold body_clb
  conv => arg 2; arg 1; whnf
  go_loopw [9] (fun v wx => ClaRel w OB k 4 v wx) (fun v _ => 20 - (intOf v).toNat)
  case atStart => exact ⟨4, o0, rfl, rfl, by omega, by omega, hk.out, h0.out, Sole.refl _ _⟩
  case round =>
    obtain ⟨i, o, rfl, hm, h3, hi, hlk, hblk, so⟩ := hrel
    have HK := Lib.hid hlk
    have HB := Lib.hid hblk
    have HL := Lib.hid so
    by_cases hlt : i < 16
    · have hI : (i : Int) < 16 := by omega
      have hI32 : (i : Int) < 32 := by omega
      obtain ⟨x, hx⟩ : ∃ x, x = o[i]'(by rw [hlk.1]; omega) := ⟨_, rfl⟩
      obtain ⟨y, hy⟩ : ∃ y, y = b[i]'(by rw [hb.out]; omega) := ⟨_, rfl⟩
      have cx : wr.cell? ⟨OB, i, none⟩ = some (.int .u8 (x.toNat : Int)) := by
        rw [hblk.cell, List.getElem?_map, List.getElem?_eq_getElem (by rw [hlk.1]; omega), ← hx]
        rfl
      have cy : wr.cell? ⟨BB, i, none⟩ = some (.int .u8 (y.toNat : Int)) := by
        rw [(so.blk hbb.out hne).cell, List.getElem?_map, List.getElem?_eq_getElem (by rw [hb.out]; omega), ← hy]
        rfl
      have f0 : wr.frozen? ⟨OB, i, none⟩ = false := hblk.free _
      have HN : Hid (LikeK k (o.set i ((x &&& 252) ||| (y &&& 3)))) := Lib.hid (hlk.set hlt fun hl => by
        unfold clampC
        have e : ¬ i % 4 = 3 := by omega
        have e2 : i % 4 = 0 ∧ 0 < i := by omega
        rw [if_neg e, if_neg e, if_pos e2, if_pos e2, clamp_b, hx])
      have HM := Lib.hid hm
      have HMX := Lib.hid (mix_b x y)
      clear hx hy hlk hblk so hm hi h3
      go_wp2_with (fail)
      go_still_tail 11, (by kernel_rfl)
      change wpList _ _ _ _ _ wr.drew
      go_wp2_with (fail)
      go_roundw
      case rel =>
        have h := HB.out.set i (bv ((x &&& 252) ||| (y &&& 3)))
        rw [← List.map_set] at h
        rw [HMX.out]
        exact ⟨i + 4, _, by go_num, by have := HM.out; omega, by have := HM.out; omega, by have := HM.out; omega, HN.out, h.drew, HL.out.trans ⟨(Sole.setCell wr OB i _).below.drew, (Sole.setCell wr OB i _).size, (Sole.setCell wr OB i _).other⟩⟩
      case measure => simp [intOf]; omega
    · obtain rfl : i = 16 := by omega
      clear hlk hblk so
      go_wp2_with (fail)
      exact HQ.out _ _ _ _ _ _ _ _ _ _ _ _ _ _ _ _ o _ HK HB HL
end Go.Proofs.Ytlcpplnajaldgaa
