/- The third reference's Derive: the loop of thirty-two stores. Condition: thirty-two bytes, below the block that is written. -/
import Derived.Test.YtpjidfcbckndfaaDoorRefExpand
import Derived.Test.YtpjidfcbckndfaaDoorRefLoopC
namespace Go.Proofs.YtpjidfcbckndfaaDoor
open Go.RowKit

noncomputable def body_drvs : Code := (((Tryd.f16.body.map loopsOf).getD [])[0]?).getD .skip
def DrvRel (bs : List UInt8) (w : World) (B : Nat) (i : Value) (wr : World) : Prop :=
  ∃ j : Nat, i = .int .i64 (j : Int) ∧ j ≤ 32 ∧ Blk wr B 25 (outC bs j) ∧ Below B w wr
set_option maxRecDepth 100000 in
set_option maxHeartbeats 2000000 in
theorem drvs_loop (c0 c1 c2 c3 c4 c5 c6 c7 c11 c12 c13 c14 c15 c16 c17 c18 c19 c20 c21 c22 c23 c24 c25 c26 c27 c28 c29 c30 c31 c32 c33 : Value) (bs : List UInt8) (hl : bs.length = 32) (w : World) (B b off c : Nat) (hh : Hid (∀ i (h : i < bs.length), w.cell? ⟨b, off + i, none⟩ = some (bv bs[i]))) (hg : b < B) (h0 : Hid (Blk w B 25 (outC bs 0))) {Q : Exit → Act → World → Prop}
    (HQ : Hid (∀ (u10 u23 u24 u25 u26 u27 u28 u29 u30 u31 u32 : Value) (wx : World), Hid (Blk wx B 25 (outC bs 32)) → Hid (Below B w wx) → Q (.exit 0) ⟨List.toArray (c0 :: c1 :: c2 :: c3 :: c4 :: c5 :: c6 :: c7 :: (.slice (some ⟨b, off, none⟩) 32 c) :: (.pointer (some ⟨B, 0, none⟩)) :: u10 :: c11 :: c12 :: c13 :: c14 :: c15 :: c16 :: c17 :: c18 :: c19 :: c20 :: c21 :: c22 :: u23 :: u24 :: u25 :: u26 :: u27 :: u28 :: u29 :: u30 :: u31 :: u32 :: c33 :: []), []⟩ wx)) :
    (Code.loop body_drvs).wp Tryd.prog Q ⟨List.toArray (c0 :: c1 :: c2 :: c3 :: c4 :: c5 :: c6 :: c7 :: (.slice (some ⟨b, off, none⟩) 32 c) :: (.pointer (some ⟨B, 0, none⟩)) :: (.int .i64 0) :: c11 :: c12 :: c13 :: c14 :: c15 :: c16 :: c17 :: c18 :: c19 :: c20 :: c21 :: c22 :: c23 :: c24 :: c25 :: c26 :: c27 :: c28 :: c29 :: c30 :: c31 :: c32 :: c33 :: []), []⟩ w := by
  have HLN := Lib.hid hl
  clear hl
  unfold body_drvs
  conv => arg 2; arg 1; whnf
  go_loopw [10] (fun i wx => DrvRel bs w B i wx) (fun i _ => 32 - (intOf i).toNat)
  case atStart => exact ⟨0, rfl, by omega, h0.out, Below.refl _ _⟩
  case round =>
    obtain ⟨j, rfl, hj, hblk, bl⟩ := hrel
    have HB := Lib.hid hblk
    have HL := Lib.hid bl
    by_cases hlt : j < 32
    · have hI : (j : Int) < 32 := by omega
      obtain ⟨cc, hcc⟩ : ∃ cc, bs[j]? = some cc := ⟨_, List.getElem?_eq_getElem (by rw [HLN.out]; omega)⟩
      have hjl : j < bs.length := by rw [HLN.out]; omega
      have k4 : wr.cell? ⟨b, off + j, none⟩ = some (bv cc) := by
        rw [bl.cell (p := ⟨b, off + j, none⟩) hg, hh.out j hjl]
        rw [List.getElem?_eq_getElem hjl] at hcc
        rw [Option.some.inj hcc]
      have HS := Lib.hid (hblk.set j (bv cc))
      rw [outC_set hlt HLN.out hcc] at HS
      have f4 : wr.frozen? ⟨B, j, none⟩ = false := hblk.free j
      obtain ⟨u, hu⟩ : ∃ u, wr.cell? ⟨B, j, none⟩ = some u := by
        refine ⟨(outC bs j)[j]'?_, ?_⟩
        · simp [outC, HLN.out]; omega
        · rw [hblk.cell j]; exact List.getElem?_eq_getElem _
      have HL4 := Lib.hid (bl.setCell (p := ⟨B, j, none⟩) (Nat.le_refl _) (bv cc))
      unfold bv at k4 HS HL4
      clear hcc hblk bl hjl
      go_wp2_with (fail)
      go_roundw
      case rel => exact ⟨j + 1, by go_num, by omega, HS.out, HL4.out⟩
      case measure => simp [intOf]; omega
    · obtain rfl : j = 32 := by omega
      clear hblk bl
      go_wp2_with (fail)
      exact HQ.out _ _ _ _ _ _ _ _ _ _ _ _ HB HL
end Go.Proofs.YtpjidfcbckndfaaDoor
