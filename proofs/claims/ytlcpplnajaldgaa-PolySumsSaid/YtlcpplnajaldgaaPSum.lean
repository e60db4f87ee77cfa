/- The fifth layer's law of sums: its loop, which lays noughts in a key's first half. Condition: a key of 32 bytes. -/
import Derived.Test.YtlcpplnajaldgaaPolSpec
import Derived.StillTailTactics
import Derived.IntWalk
namespace Go.Proofs.Ytlcpplnajaldgaa
open Go.RowKit

/-- A key whose first i bytes are 0. -/
def zeroK (k : List UInt8) (i : Nat) : List UInt8 := List.replicate i 0 ++ k.drop i
theorem zeroK_length {k : List UInt8} {i : Nat} (h : i ≤ k.length) : (zeroK k i).length = k.length := by
  unfold zeroK
  rw [List.length_append, List.length_replicate, List.length_drop]
  omega
theorem zeroK_set {k : List UInt8} {i : Nat} (h : i < k.length) : (zeroK k i).set i 0 = zeroK k (i + 1) := by
  unfold zeroK
  rw [List.set_append_right _ _ (by simp), List.length_replicate, Nat.sub_self, List.drop_eq_getElem_cons h, List.set_cons_zero, List.replicate_succ']
  simp
theorem zeroK_take {k : List UInt8} : (zeroK k 16).take 16 = List.replicate 16 0 := by
  unfold zeroK
  rw [List.take_append_of_le_length (by simp), List.take_of_length_le (by simp)]
theorem zeroK_drop {k : List UInt8} : (zeroK k 16).drop 16 = k.drop 16 := by
  unfold zeroK
  rw [List.drop_append_of_le_length (by simp), List.drop_of_length_le (by simp), List.nil_append]
def ZerRel (w : World) (OB : Nat) (k : List UInt8) (v : Value) (W : World) : Prop := ∃ i : Nat, v = .int .i64 (i : Int) ∧ i ≤ 16 ∧ Blk W OB 23 ((zeroK k i).map bv) ∧ Sole w W OB
noncomputable def body_zer : Code := (((Try.f4.body.map loopsOf).getD [])[0]?).getD .skip
set_option maxRecDepth 100000 in
set_option maxHeartbeats 2000000 in
theorem zer_loop (c0 c1 c2 c3 c4 c7 c8 c9 c10 c11 c12 c13 c14 c15 c16 c17 c18 c19 c20 c21 c22 c23 c24 c25 c26 c27 c28 c29 c30 c31 c32 c33 c34 c35 c36 : Value) (OB : Nat) (k : List UInt8) (w : World) (hk : Hid (k.length = 32)) (h0 : Hid (Blk w OB 23 (k.map bv))) {Q : Exit → Act → World → Prop}
    (HQ : Hid (∀ (u6 u14 u15 u16 u17 u18 u19 : Value) (wx : World), Hid (Blk wx OB 23 ((zeroK k 16).map bv)) → Hid (Sole w wx OB) → Q (.exit 0) ⟨List.toArray (c0 :: c1 :: c2 :: c3 :: c4 :: (.pointer (some ⟨OB, 0, none⟩)) :: u6 :: c7 :: c8 :: c9 :: c10 :: c11 :: c12 :: c13 :: u14 :: u15 :: u16 :: u17 :: u18 :: u19 :: c20 :: c21 :: c22 :: c23 :: c24 :: c25 :: c26 :: c27 :: c28 :: c29 :: c30 :: c31 :: c32 :: c33 :: c34 :: c35 :: c36 :: []), []⟩ wx)) :
    (Code.loop body_zer).wp Try.prog Q ⟨List.toArray (c0 :: c1 :: c2 :: c3 :: c4 :: (.pointer (some ⟨OB, 0, none⟩)) :: (.int .i64 0) :: c7 :: c8 :: c9 :: c10 :: c11 :: c12 :: c13 :: c14 :: c15 :: c16 :: c17 :: c18 :: c19 :: c20 :: c21 :: c22 :: c23 :: c24 :: c25 :: c26 :: c27 :: c28 :: c29 :: c30 :: c31 :: c32 :: c33 :: c34 :: c35 :: c36 :: []), []⟩ w := by
  unfold body_zer
  conv => arg 2; arg 1; whnf
  go_loopw [6] (fun v wx => ZerRel w OB k v wx) (fun v _ => 16 - (intOf v).toNat)
  case atStart => exact ⟨0, rfl, by omega, h0.out, Sole.refl _ _⟩
  case round =>
    obtain ⟨i, rfl, hi, hblk, so⟩ := hrel
    have HB := Lib.hid hblk
    have HL := Lib.hid so
    by_cases hlt : i < 16
    · have hI : (i : Int) < 16 := by omega
      have hI32 : (i : Int) < 32 := by omega
      have f0 : wr.frozen? ⟨OB, i, none⟩ = false := hblk.free _
      obtain ⟨u, hu⟩ : ∃ u, wr.cell? ⟨OB, i, none⟩ = some u := by
        refine ⟨((zeroK k i).map bv)[i]'?_, ?_⟩
        · rw [List.length_map, zeroK_length (by rw [hk.out]; omega), hk.out]; omega
        · rw [hblk.cell]; exact List.getElem?_eq_getElem _
      have HZ := Lib.hid (zeroK_set (k := k) (i := i) (by rw [hk.out]; omega))
      clear hblk so hi
      go_wp2_with (fail)
      go_roundw
      case rel =>
        have h := HB.out.set i (bv 0)
        rw [← List.map_set, HZ.out] at h
        exact ⟨i + 1, by go_num, by omega, h, HL.out.trans (Sole.setCell _ OB i _)⟩
      case measure => simp [intOf]; omega
    · obtain rfl : i = 16 := by omega
      clear hblk so
      go_wp2_with (fail)
      exact HQ.out _ _ _ _ _ _ _ _ HB HL
end Go.Proofs.Ytlcpplnajaldgaa
