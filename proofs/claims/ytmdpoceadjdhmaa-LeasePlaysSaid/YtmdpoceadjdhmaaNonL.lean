/- The sixth reference's Nonce, its loop: ten bytes of a nonce. Condition: the bytes lie below the block that is written. -/
import Derived.Test.YtmdpoceadjdhmaaPutC
import Derived.Test.YtmdpoceadjdhmaaGen
import Derived.Test.YtmdpoceadjdhmaaNonB
import Derived.StillTailTactics
import Derived.IntWalk
namespace Go.Proofs.Ytmdpoceadjdhmaa
open Go.RowKit

def PadK (n m : Nat) (T : TypeId) (bs : List UInt8) (w : World) (B : Nat) (i : Value) (wr : World) : Prop :=
  ∃ j : Nat, i = .int .i64 (j : Int) ∧ j ≤ m ∧ Blk wr B T (putC n bs j) ∧ Below B w wr
noncomputable def body_nn : Code := (((Try.f19.body.map loopsOf).getD [])[0]?).getD .skip
set_option maxRecDepth 100000 in
set_option maxHeartbeats 2000000 in
theorem nn_loop (c0 c1 c2 c3 c4 c8 c9 c10 c11 c12 c13 c14 c15 c16 c17 c18 c19 c20 c21 c22 c23 c24 : Value) (bs : List UInt8) (hl : bs.length = 10) (w : World) (B b off c : Nat) (hh : Hid (∀ i (h : i < bs.length), w.cell? ⟨b, off + i, none⟩ = some (bv bs[i]))) (hne : b ≠ B) (h0 : Hid (Blk w B 34 (putC 12 bs 0))) {Q : Exit → Act → World → Prop}
    (HQ : Hid (∀ (u7 u14 u15 u16 u17 u18 u19 u20 u21 u22 u23 : Value) (wx : World), Hid (Blk wx B 34 (putC 12 bs 10)) → Hid (Sole w wx B) → Q (.exit 0) ⟨List.toArray (c0 :: c1 :: c2 :: c3 :: c4 :: (.pointer (some ⟨B, 0, none⟩)) :: (.slice (some ⟨b, off, none⟩) 10 c) :: u7 :: c8 :: c9 :: c10 :: c11 :: c12 :: c13 :: u14 :: u15 :: u16 :: u17 :: u18 :: u19 :: u20 :: u21 :: u22 :: u23 :: c24 :: []), []⟩ wx)) :
    (Code.loop body_nn).wp Try.prog Q ⟨List.toArray (c0 :: c1 :: c2 :: c3 :: c4 :: (.pointer (some ⟨B, 0, none⟩)) :: (.slice (some ⟨b, off, none⟩) 10 c) :: (.int .i64 0) :: c8 :: c9 :: c10 :: c11 :: c12 :: c13 :: c14 :: c15 :: c16 :: c17 :: c18 :: c19 :: c20 :: c21 :: c22 :: c23 :: c24 :: []), []⟩ w := by
  have HLN := Lib.hid hl
  clear hl
  unfold body_nn
  conv => arg 2; arg 1; whnf
  go_loopw [7] (fun i wx => (∃ j : Nat, i = .int .i64 (j : Int) ∧ j ≤ 10 ∧ Blk wx B 34 (putC 12 bs j) ∧ Sole w wx B)) (fun i _ => 10 - (intOf i).toNat)
  case atStart => exact ⟨0, rfl, by omega, h0.out, Sole.refl _ _⟩
  case round =>
    obtain ⟨j, rfl, hj, hblk, bl⟩ := hrel
    have HB := Lib.hid hblk
    have HL := Lib.hid bl
    by_cases hlt : j < 10
    · have hI : (j : Int) < 10 := by omega
      have hI2 : (j : Int) < 12 := by omega
      have hjl : j < bs.length := by rw [HLN.out]; omega
      obtain ⟨cc, hcc⟩ : ∃ cc, bs[j]? = some cc := ⟨_, List.getElem?_eq_getElem hjl⟩
      have k4 : wr.cell? ⟨b, off + j, none⟩ = some (bv cc) := by
        rw [bl.cell (p := ⟨b, off + j, none⟩) hne, hh.out j hjl]
        rw [List.getElem?_eq_getElem hjl] at hcc
        rw [Option.some.inj hcc]
      have HS := Lib.hid (hblk.set j (bv cc))
      rw [putC_set (by omega) hcc] at HS
      have f4 : wr.frozen? ⟨B, j, none⟩ = false := hblk.free j
      obtain ⟨u, hu⟩ : ∃ u, wr.cell? ⟨B, j, none⟩ = some u := by
        refine ⟨(putC 12 bs j)[j]'?_, ?_⟩
        · rw [putC_length (by omega) (by omega)]; omega
        · rw [hblk.cell j]; exact List.getElem?_eq_getElem _
      have HL4 := Lib.hid (bl.trans (Sole.setCell wr B j (bv cc)))
      unfold bv at k4 HS HL4
      clear hcc hblk bl hjl
      go_wp2_with (fail)
      go_roundw
      case rel => exact ⟨j + 1, by go_num, by omega, HS.out, HL4.out⟩
      case measure => simp [intOf]; omega
    · obtain rfl : j = 10 := by omega
      clear hblk bl
      go_wp2_with (fail)
      exact HQ.out _ _ _ _ _ _ _ _ _ _ _ _ HB HL
end Go.Proofs.Ytmdpoceadjdhmaa
