/- sha.spreadOut: the loop over the sixteen words of the block. Conditions: a block of 64 bytes. -/
import Derived.Test.YtpjidfcbckndfaaDoorRefWords
import Derived.Test.YtpjidfcbckndfaaDoorBlk
import Derived.StillTailTactics
namespace Go.Proofs.YtpjidfcbckndfaaDoor
open Go.RowKit

noncomputable def body_first : Code := (((Tryd.f34.body.map loopsOf).getD [])[0]?).getD .skip
/-- Some words, and noughts behind them. -/
def wordsC (ds : List Nat) : List Value := ds.map wv ++ List.replicate (64 - ds.length) (.int .u32 0)
theorem wordsC_set {ds : List Nat} {x : Nat} (h : ds.length < 64) : (wordsC ds).set ds.length (wv x) = wordsC (ds ++ [x]) := by
  unfold wordsC
  rw [List.set_append_right _ _ (by simp), List.map_append, List.length_append, show 64 - ds.length = (64 - (ds.length + 1)) + 1 by omega, List.replicate_succ, List.append_assoc]
  simp
theorem wordsC_get {ds : List Nat} {j : Nat} (h : j < ds.length) : (wordsC ds)[j]? = some (.int .u32 ((ds.getD j 0 : Nat) : Int)) := by
  unfold wordsC
  rw [List.getElem?_append_left (by simpa using h)]
  simp [h, wv]
theorem wordsC_length {ds : List Nat} (h : ds.length ≤ 64) : (wordsC ds).length = 64 := by simp [wordsC]; omega
theorem be_bits (b0 b1 b2 b3 : UInt8) : bits .or .u32 (bits .or .u32 (bits .or .u32 ((b0.toNat : Int) * 16777216) ((b1.toNat : Int) * 65536)) ((b2.toNat : Int) * 256)) (b3.toNat : Int) = ((numBE [b0, b1, b2, b3] : Nat) : Int) := by
  have g0 := b0.toNat_lt
  have g1 := b1.toNat_lt
  have g2 := b2.toNat_lt
  have g3 := b3.toNat_lt
  rw [show (b0.toNat : Int) * 16777216 = ((b0.toNat * 16777216 : Nat) : Int) by omega, show (b1.toNat : Int) * 65536 = ((b1.toNat * 65536 : Nat) : Int) by omega, show (b2.toNat : Int) * 256 = ((b2.toNat * 256 : Nat) : Int) by omega]
  rw [u32_or_nat _ _ (by omega) (by omega), nat_join 24 _ _ (by omega) (by omega), u32_or_nat _ _ (by omega) (by omega), nat_join 16 _ _ (by omega) (by omega), u32_or_nat _ _ (by omega) (by omega), nat_join 8 _ _ (by omega) (by omega)]
  simp only [numBE, List.foldl_cons, List.foldl_nil]
  omega
def FstRel (bs : List UInt8) (w : World) (S : Nat) (i : Value) (wr : World) : Prop :=
  ∃ j : Nat, i = .int .i64 (j : Int) ∧ j ≤ 16 ∧ Blk wr S 63 (wordsC (wordsAt bs 0 j)) ∧ Below S w wr
set_option maxRecDepth 100000 in
set_option maxHeartbeats 2000000 in
theorem first_loop (c1 c2 c4 c5 c6 c7 c8 c9 c10 c12 c13 c14 c15 c16 c17 c18 c19 c20 c21 c22 c23 c24 c25 c26 c27 c28 c29 c30 c31 c32 c33 c34 c35 c36 c37 c38 c39 c40 c41 c42 c43 c44 c45 c46 c47 c48 c49 c50 c51 c52 c53 c54 c55 c56 c57 c58 c59 c60 c61 c62 c63 c64 c65 c66 c67 c68 c69 c70 c71 c72 c73 c74 c75 c76 c77 c78 c79 c80 c81 c82 c83 c84 c85 c86 c87 c88 c89 c90 : Value) (bs : List UInt8) (hl : bs.length = 64) (w : World) (b S : Nat) (hb : Hid (Blk w b 40 (bs.map bv))) (hlt : b < S) (h0 : Hid (Blk w S 63 (wordsC []))) {Q : Exit → Act → World → Prop}
    (HQ : Hid (∀ (u4 u5 u12 u13 u14 u15 u16 u17 u18 u19 u20 u21 u22 u23 u24 u25 u26 u27 u28 u29 u30 u31 u32 u33 u34 u35 u36 u37 u38 u39 u40 u41 u42 u43 u44 u45 u46 : Value) (wx : World), Hid (Blk wx S 63 (wordsC (wordsAt bs 0 16))) → Hid (Below S w wx) → Q (.exit 0) ⟨List.toArray ((.pointer (some ⟨b, 0, none⟩)) :: c1 :: c2 :: (.pointer (some ⟨S, 0, none⟩)) :: u4 :: u5 :: c6 :: c7 :: c8 :: c9 :: c10 :: (.int .i64 16) :: u12 :: u13 :: u14 :: u15 :: u16 :: u17 :: u18 :: u19 :: u20 :: u21 :: u22 :: u23 :: u24 :: u25 :: u26 :: u27 :: u28 :: u29 :: u30 :: u31 :: u32 :: u33 :: u34 :: u35 :: u36 :: u37 :: u38 :: u39 :: u40 :: u41 :: u42 :: u43 :: u44 :: u45 :: u46 :: c47 :: c48 :: c49 :: c50 :: c51 :: c52 :: c53 :: c54 :: c55 :: c56 :: c57 :: c58 :: c59 :: c60 :: c61 :: c62 :: c63 :: c64 :: c65 :: c66 :: c67 :: c68 :: c69 :: c70 :: c71 :: c72 :: c73 :: c74 :: c75 :: c76 :: c77 :: c78 :: c79 :: c80 :: c81 :: c82 :: c83 :: c84 :: c85 :: c86 :: c87 :: c88 :: c89 :: c90 :: []), []⟩ wx)) :
    (Code.loop body_first).wp Tryd.prog Q ⟨List.toArray ((.pointer (some ⟨b, 0, none⟩)) :: c1 :: c2 :: (.pointer (some ⟨S, 0, none⟩)) :: c4 :: c5 :: c6 :: c7 :: c8 :: c9 :: c10 :: (.int .i64 0) :: c12 :: c13 :: c14 :: c15 :: c16 :: c17 :: c18 :: c19 :: c20 :: c21 :: c22 :: c23 :: c24 :: c25 :: c26 :: c27 :: c28 :: c29 :: c30 :: c31 :: c32 :: c33 :: c34 :: c35 :: c36 :: c37 :: c38 :: c39 :: c40 :: c41 :: c42 :: c43 :: c44 :: c45 :: c46 :: c47 :: c48 :: c49 :: c50 :: c51 :: c52 :: c53 :: c54 :: c55 :: c56 :: c57 :: c58 :: c59 :: c60 :: c61 :: c62 :: c63 :: c64 :: c65 :: c66 :: c67 :: c68 :: c69 :: c70 :: c71 :: c72 :: c73 :: c74 :: c75 :: c76 :: c77 :: c78 :: c79 :: c80 :: c81 :: c82 :: c83 :: c84 :: c85 :: c86 :: c87 :: c88 :: c89 :: c90 :: []), []⟩ w := by
  obtain ⟨i0, hi, hz0, hz1, hz2⟩ := info_parts info_u8
  have HL := Lib.hid hl
  clear hl
  unfold body_first
  conv => arg 2; arg 1; whnf
  go_loopw [11] (fun i wx => FstRel bs w S i wx) (fun i _ => 16 - (intOf i).toNat)
  case atStart => exact ⟨0, rfl, by omega, h0.out, Below.refl _ _⟩
  case round =>
    obtain ⟨j, rfl, hj, hblk, bl⟩ := hrel
    by_cases hlt2 : j < 16
    · have hI : (j : Int) < 16 := by omega
      have hI64 : (j : Int) < 64 := by omega
      have hbr := hb.out.below bl hlt
      have h4 : 4 * j + 3 < bs.length := by have := HL.out; omega
      have z0 := hbr.cell (4 * j)
      have z1 := hbr.cell (4 * j + 1)
      have z2 := hbr.cell (4 * j + 2)
      have z3 := hbr.cell (4 * j + 3)
      rw [List.getElem?_map, List.getElem?_eq_getElem (by omega)] at z0 z1 z2 z3
      obtain ⟨b0, e0⟩ : ∃ x : UInt8, x = bs[4 * j] := ⟨_, rfl⟩
      obtain ⟨b1, e1⟩ : ∃ x : UInt8, x = bs[4 * j + 1] := ⟨_, rfl⟩
      obtain ⟨b2, e2⟩ : ∃ x : UInt8, x = bs[4 * j + 2] := ⟨_, rfl⟩
      obtain ⟨b3, e3⟩ : ∃ x : UInt8, x = bs[4 * j + 3] := ⟨_, rfl⟩
      rw [← e0] at z0
      rw [← e1] at z1
      rw [← e2] at z2
      rw [← e3] at z3
      have HW : Hid (wordsAt bs 0 (j + 1) = wordsAt bs 0 j ++ [numBE [b0, b1, b2, b3]]) := by
        show wordsAt bs 0 (j + 1) = _
        rw [wordsAt, e0, e1, e2, e3]
        congr 3
        rw [Nat.zero_add, List.drop_eq_getElem_cons (by omega), List.drop_eq_getElem_cons (by omega), List.drop_eq_getElem_cons (by omega), List.drop_eq_getElem_cons (by omega)]
        rfl
      clear e0 e1 e2 e3
      have y0 : wr.cell? ⟨b, 4 * j, none⟩ = some (.int .u8 (b0.toNat : Int)) := z0
      have y1 : wr.cell? ⟨b, 4 * j + 1, none⟩ = some (.int .u8 (b1.toNat : Int)) := z1
      have y2 : wr.cell? ⟨b, 4 * j + 2, none⟩ = some (.int .u8 (b2.toNat : Int)) := z2
      have y3 : wr.cell? ⟨b, 4 * j + 3, none⟩ = some (.int .u8 (b3.toNat : Int)) := z3
      have g0 : (b0.toNat : Int) ≤ 255 := by have := b0.toNat_lt; omega
      have g1 : (b1.toNat : Int) ≤ 255 := by have := b1.toNat_lt; omega
      have g2 : (b2.toNat : Int) ≤ 255 := by have := b2.toNat_lt; omega
      have g3 : (b3.toNat : Int) ≤ 255 := by have := b3.toNat_lt; omega
      clear z0 z1 z2 z3 h4 hbr
      have hwl : (wordsAt bs 0 j).length = j := wordsAt_length _ _ _
      have HWL := Lib.hid hwl
      have c0 : wr.cell? ⟨S, j, none⟩ = some (.int .u32 0) := by
        rw [hblk.cell j]
        unfold wordsC
        rw [List.getElem?_append_right (by simp [hwl]), List.length_map, hwl, Nat.sub_self, List.getElem?_replicate, if_pos (by omega)]
      have f0 : wr.frozen? ⟨S, j, none⟩ = false := hblk.free j
      have HB := Lib.hid hblk
      have HBL := Lib.hid bl
      have i1 : ((j : Int) * 4).toNat = 4 * j := by omega
      have i2 : (((j : Int) + 1) * 4).toNat = 4 * j + 4 := by omega
      have hsl := fun W => run_slice_arr (P := Tryd.prog) W 40 64 5 i0 Tryd.underlying40 hi hz1 b (4 * j) (4 * j + 4) ((j : Int) * 4) (((j : Int) + 1) * 4) (by omega) (by omega) (by omega) (by omega) (by omega)
      have e5 : 4 * j + 4 - 4 * j = 4 := by omega
      rw [e5] at hsl
      clear hwl hblk bl i1 i2 e5
      go_wp2_with (fail)
      go_still_tail 24, (by kernel_rfl)
      change wpList _ _ _ _ _ wr.drew
      go_wp2_with (fail)
      go_roundw
      case rel =>
        rw [be_bits]
        refine ⟨j + 1, by go_num, by omega, ?_, (HBL.out.setCell (p := ⟨S, j, none⟩) (Nat.le_refl _) _).drew⟩
        have h := (HB.out.set j (wv (numBE [b0, b1, b2, b3]))).drew
        have e := wordsC_set (ds := wordsAt bs 0 j) (x := numBE [b0, b1, b2, b3]) (by rw [HWL.out]; omega)
        rw [HWL.out] at e
        rw [e, ← HW.out] at h
        exact h
      case measure => simp [intOf]; omega
    · obtain rfl : j = 16 := by omega
      have HB := Lib.hid hblk
      have HBL := Lib.hid bl
      clear hblk bl
      go_wp2_with (fail)
      exact HQ.out _ _ _ _ _ _ _ _ _ _ _ _ _ _ _ _ _ _ _ _ _ _ _ _ _ _ _ _ _ _ _ _ _ _ _ _ _ _ HB HBL
end Go.Proofs.YtpjidfcbckndfaaDoor
