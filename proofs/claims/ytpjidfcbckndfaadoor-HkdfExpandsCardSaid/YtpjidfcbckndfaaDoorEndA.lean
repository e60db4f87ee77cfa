/- sha's end: the loop that lays the number of bits into the block's last eight bytes. No condition of its own. -/
import Derived.Test.YtpjidfcbckndfaaDoorThrough
namespace Go.Proofs.YtpjidfcbckndfaaDoor
open Go.RowKit

/-- The block behind j stores of the loop. -/
def endC (cs : List UInt8) (n j : Nat) : List UInt8 := cs.take (64 - j) ++ beB j n
theorem endC_length {cs : List UInt8} (h : cs.length = 64) (n : Nat) {j : Nat} (hj : j ≤ 64) : (endC cs n j).length = 64 := by simp [endC, beB_length]; omega
theorem endC_set {cs : List UInt8} (h : cs.length = 64) (n : Nat) {j : Nat} (hj : j < 64) : (endC cs n j).set (63 - j) (UInt8.ofNat (n / 256 ^ j % 256)) = endC cs n (j + 1) := by
  unfold endC
  rw [beB_cons, show 64 - j = (63 - j) + 1 by omega, List.take_succ_eq_append_getElem (by omega), List.append_assoc, List.set_append_right _ _ (by simp; omega)]
  have e : 63 - j - (cs.take (63 - j)).length = 0 := by simp; omega
  rw [e, show 64 - (j + 1) = 63 - j by omega]
  rfl
theorem endC_zero {cs : List UInt8} (h : cs.length = 64) (n : Nat) : endC cs n 0 = cs := by
  unfold endC
  rw [List.take_of_length_le (by omega)]
  simp [beB]
def FinRel (cs : List UInt8) (n : Nat) (w : World) (S : Nat) (v : Value) (wr : World) : Prop :=
  ∃ j : Nat, v = .int .i64 (j : Int) ∧ j ≤ 8 ∧ Blk wr S 40 ((endC cs n j).map bv) ∧ Sole w wr S
noncomputable def body_fin : Code := (((Tryd.f32.body.map loopsOf).getD [])[0]?).getD .skip
set_option maxRecDepth 100000 in
set_option maxHeartbeats 1000000 in
theorem fin_loop (c0 c1 c2 c3 c4 c6 c7 c8 c10 c11 c12 c13 c14 c15 c16 c17 c18 c19 c20 c21 c22 c24 c25 c26 c27 c28 c29 c30 c31 c32 c33 c34 c35 c36 : Value) (cs : List UInt8) (hcs : Hid (cs.length = 64)) (n : Nat) (_hn : (n : Int) ≤ 18446744073709551615) (w : World) (S : Nat) (h0 : Hid (Blk w S 40 (cs.map bv))) {Q : Exit → Act → World → Prop}
    (HQ : Hid (∀ (u10 u24 u25 u26 u27 u28 u29 u30 u31 u32 u33 u34 : Value) (wx : World), Hid (Blk wx S 40 ((endC cs n 8).map bv)) → Hid (Sole w wx S) → Q (.exit 0) ⟨List.toArray (c0 :: c1 :: c2 :: c3 :: c4 :: (.pointer (some ⟨S, 0, none⟩)) :: c6 :: c7 :: c8 :: (.int .u64 (n : Int)) :: u10 :: c11 :: c12 :: c13 :: c14 :: c15 :: c16 :: c17 :: c18 :: c19 :: c20 :: c21 :: c22 :: (.int .i64 8) :: u24 :: u25 :: u26 :: u27 :: u28 :: u29 :: u30 :: u31 :: u32 :: u33 :: u34 :: c35 :: c36 :: []), []⟩ wx)) :
    (Code.loop body_fin).wp Tryd.prog Q ⟨List.toArray (c0 :: c1 :: c2 :: c3 :: c4 :: (.pointer (some ⟨S, 0, none⟩)) :: c6 :: c7 :: c8 :: (.int .u64 (n : Int)) :: c10 :: c11 :: c12 :: c13 :: c14 :: c15 :: c16 :: c17 :: c18 :: c19 :: c20 :: c21 :: c22 :: (.int .i64 0) :: c24 :: c25 :: c26 :: c27 :: c28 :: c29 :: c30 :: c31 :: c32 :: c33 :: c34 :: c35 :: c36 :: []), []⟩ w := by
  unfold body_fin
  conv => arg 2; arg 1; whnf
  go_loopw [23] (fun v wx => FinRel cs n w S v wx) (fun v _ => 8 - (intOf v).toNat)
  case atStart => exact ⟨0, rfl, by omega, (endC_zero hcs.out n).symm ▸ h0.out, Sole.refl _ _⟩
  case round =>
    obtain ⟨j, rfl, hj, hblk, bl⟩ := hrel
    by_cases hlt : j < 8
    · have hI : (j : Int) < 8 := by omega
      have f0 : wr.frozen? ⟨S, 63 - j, none⟩ = false := hblk.free _
      obtain ⟨u, hu⟩ : ∃ u, wr.cell? ⟨S, 63 - j, none⟩ = some u := by
        refine ⟨((endC cs n j).map bv)[63 - j]'?_, ?_⟩
        · simp [endC_length hcs.out n (show j ≤ 64 by omega)]; omega
        · rw [hblk.cell]; exact List.getElem?_eq_getElem _
      have HB := Lib.hid hblk
      have HL := Lib.hid bl
      have j1 : (63 : Int) - (j : Int) < 64 := by omega
      have j2 : (0 : Int) ≤ 63 - (j : Int) := by omega
      have j3 : ((63 : Int) - (j : Int)).toNat = 63 - j := by omega
      have j4 : ((8 : Int) * (j : Int)).toNat = 8 * j := by omega
      have j5 : (8 : Int) * (j : Int) < 64 := by omega
      clear hblk bl
      go_wp2_with (fail)
      go_roundw
      case rel =>
        have e : Value.int .u8 ((n : Int) / 2 ^ (8 * j) % 256) = bv (UInt8.ofNat (n / 256 ^ j % 256)) := by
          unfold bv
          rw [UInt8.toNat_ofNat', Nat.mod_mod_of_dvd _ (by decide), show (256 : Nat) ^ j = 2 ^ (8 * j) by rw [Nat.pow_mul]]
          exact congrArg (Value.int .u8) (by simp)
        rw [e]
        have h := HB.out.set (63 - j) (bv (UInt8.ofNat (n / 256 ^ j % 256)))
        rw [← List.map_set, endC_set hcs.out n (by omega)] at h
        exact ⟨j + 1, by go_num, by omega, h, HL.out.trans (Sole.setCell _ _ _ _)⟩
      case measure => simp [intOf]; omega
    · obtain rfl : j = 8 := by omega
      have HB := Lib.hid hblk
      have HL := Lib.hid bl
      clear hblk bl
      go_wp2_with (fail)
      exact HQ.out _ _ _ _ _ _ _ _ _ _ _ _ _ HB HL
end Go.Proofs.YtpjidfcbckndfaaDoor
