/- The contract of poly's handOn: what each limb has beyond 26 bits is handed on. Conditions: five limbs, none above 2^60. -/
import Derived.Test.YtlcpplnajaldgaaLMath
import Derived.Test.YtlcpplnajaldgaaW64
import Derived.StillTailTactics
import Derived.IntWalk
import Derived.OwnWalk
namespace Go.Proofs.Ytlcpplnajaldgaa
open Go.RowKit

theorem and26 (n : Nat) (h : n < 18446744073709551616) : bits .and .u64 (n : Int) 67108863 = ((n % 67108864 : Nat) : Int) := by
  have h1 := u64_and_nat n 67108863 h (by decide)
  rw [show n &&& 67108863 = n % 67108864 from Nat.and_two_pow_sub_one_eq_mod n 26] at h1
  exact h1
theorem sole_drew {w w' : World} {B : Nat} (h : Sole w w' B) : Sole w w'.drew B := ⟨h.below.drew, h.size, h.other⟩
def HanRel (w : World) (B V : Nat) (T : TypeId) (cv v : Value) (W : World) : Prop := ∃ (i c : Nat) (out : List Nat), v = .int .i64 (i : Int) ∧ cv = .int .u64 (c : Int) ∧ i ≤ 5 ∧ HanP out c i V ∧ Blk W B T (out.map wq) ∧ Sole w W B
noncomputable def body_han : Code := (((Try.f31.body.map loopsOf).getD [])[0]?).getD .skip
set_option maxRecDepth 100000 in
set_option maxHeartbeats 2000000 in
theorem han_loop (c1 c2 c4 c6 c7 c8 c9 c10 c11 c12 c13 c14 c15 c16 c17 c18 c19 c20 c21 c22 c23 c24 c25 c26 c27 c28 c29 c30 c31 c32 : Value) (B V : Nat) (T : TypeId) (out : List Nat) (w : World) (hp : Hid (HanP out 0 0 V)) (h0 : Hid (Blk w B T (out.map wq))) {Q : Exit → Act → World → Prop}
    (HQ : Hid (∀ (u4 u5 u6 u7 u8 u9 u10 u11 u12 u13 u14 u15 u16 u17 u18 u19 u20 u21 u22 u23 u24 u25 u26 u27 u28 u29 u30 u31 : Value) (c : Nat) (out : List Nat) (wx : World), Hid (HanP out c 5 V) → Hid (Blk wx B T (out.map wq)) → Hid (Sole w wx B) → Q (.exit 0) ⟨List.toArray ((.pointer (some ⟨B, 0, none⟩)) :: c1 :: c2 :: (.int .u64 (c : Int)) :: u4 :: u5 :: u6 :: u7 :: u8 :: u9 :: u10 :: u11 :: u12 :: u13 :: u14 :: u15 :: u16 :: u17 :: u18 :: u19 :: u20 :: u21 :: u22 :: u23 :: u24 :: u25 :: u26 :: u27 :: u28 :: u29 :: u30 :: u31 :: c32 :: []), []⟩ wx)) :
    (Code.loop body_han).wp Try.prog Q ⟨List.toArray ((.pointer (some ⟨B, 0, none⟩)) :: c1 :: c2 :: (.int .u64 0) :: c4 :: (.int .i64 0) :: c6 :: c7 :: c8 :: c9 :: c10 :: c11 :: c12 :: c13 :: c14 :: c15 :: c16 :: c17 :: c18 :: c19 :: c20 :: c21 :: c22 :: c23 :: c24 :: c25 :: c26 :: c27 :: c28 :: c29 :: c30 :: c31 :: c32 :: []), []⟩ w := by
  unfold body_han
  conv => arg 2; arg 1; whnf
  go_loopw [3, 5] (fun cv v wx => HanRel w B V T cv v wx) (fun _ v _ => 5 - (intOf v).toNat)
  case atStart => exact ⟨0, 0, out, rfl, rfl, by omega, hp.out, h0.out, Sole.refl _ _⟩
  case round =>
    obtain ⟨i, c, out, rfl, rfl, hi, hcp, hblk, so⟩ := hrel
    have HP := Lib.hid hcp
    by_cases hlt : i < 5
    · have hI : (i : Int) < 5 := by omega
      obtain ⟨e, he⟩ : ∃ e, e = out.getD i 0 := ⟨_, rfl⟩
      have el : e ≤ 1152921504606846976 := by rw [he]; exact hcp.2.2.2.1 i hlt
      have cl := hcp.2.2.2.2
      have HN := Lib.hid (han_step hcp hlt he)
      have ce := rq_cell hblk (i := i) (by rw [hcp.1]; exact hlt)
      rw [← he] at ce
      have f0 : wr.frozen? ⟨B, i, none⟩ = false := hblk.free _
      have HB := Lib.hid hblk
      have HL := Lib.hid so
      obtain ⟨g, hg⟩ : ∃ g, g = e + c := ⟨_, rfl⟩
      have gI : (e : Int) + (c : Int) = (g : Int) := by omega
      have gl : (g : Int) ≤ 1152921538966585344 := by omega
      have HA := Lib.hid (and26 g (by omega))
      have a1 : IntKind.u64.wrap (g : Int) = (g : Int) := IntWalk.u64_in _ (by clear gI; omega)
      rw [← hg] at HN
      clear hg he hcp hblk so hi el cl
      go_wp2_with (fail)
      go_still_tail 9, (by kernel_rfl)
      change wpList _ _ _ _ _ wr.drew
      go_wp2_with (fail)
      have h1 := (HB.out.set i (wq g)).drew
      obtain ⟨wb, hwb⟩ : ∃ W : World, W = (wr.setCell ⟨B, i, none⟩ (.int .u64 (g : Int))).drew := ⟨_, rfl⟩
      have HB1 : Hid (Blk wb B T ((out.set i g).map wq)) := Lib.hid (by rw [hwb, List.map_set]; exact h1)
      have HL1 : Hid (Sole w wb B) := Lib.hid (by rw [hwb]; exact sole_drew (HL.out.trans (Sole.setCell wr B i _)))
      have ce2 := rq_cell HB1.out (i := i) (by rw [List.length_set, HP.out.1]; exact hlt)
      rw [gs_self (by rw [HP.out.1]; exact hlt)] at ce2
      have f1 : wb.frozen? ⟨B, i, none⟩ = false := HB1.out.free _
      have a2 : bits .and .u64 (g : Int) 67108863 = ((g % 67108864 : Nat) : Int) := HA.out
      obtain ⟨m, hm⟩ : ∃ m, m = g % 67108864 := ⟨_, rfl⟩
      rw [← hm] at a2 HN
      rw [← hwb]
      clear h1 hwb ce f0 HB HL gI hm
      go_still_tail 8, (by kernel_rfl)
      change wpList _ _ _ _ _ wb.drew
      go_wp2_with (fail)
      clear a2 a1
      go_roundw
      case rel =>
        have h := (HB1.out.set i (wq m)).drew
        rw [← List.map_set, List.set_set] at h
        have e3 : Value.int .u64 ((g : Int) / 67108864) = .int .u64 ((g / 67108864 : Nat) : Int) := congrArg (Value.int .u64) (by omega)
        rw [e3]
        exact ⟨i + 1, _, _, by go_num, rfl, by omega, HN.out, h, sole_drew (HL1.out.trans (Sole.setCell wb B i _))⟩
      case measure => simp [intOf]; omega
    · obtain rfl : i = 5 := by omega
      have HB := Lib.hid hblk
      have HL := Lib.hid so
      clear hblk so hcp
      go_wp2_with (fail)
      exact HQ.out _ _ _ _ _ _ _ _ _ _ _ _ _ _ _ _ _ _ _ _ _ _ _ _ _ _ _ _ c out _ HP HB HL
/-- What is handed on beyond the last limb, and what is left. -/
def HanPost (w : World) (B : Nat) (T : TypeId) (V : Nat) (e : Ending) (w' : World) : Prop := ∃ (c : Nat) (out : List Nat), e = .returned (.int .u64 (c : Int)) ∧ HanP out c 5 V ∧ Blk w' B T (out.map wq) ∧ Sole w w' B
set_option maxRecDepth 100000 in
set_option maxHeartbeats 1000000 in
theorem han_any (B V : Nat) (T : TypeId) (ns : List Nat) (w : World) (hb : Blk w B T (ns.map wq)) (hp : HanP ns 0 0 V) :
    Calls Try.prog 31 #[.pointer (some ⟨B, 0, none⟩)] w (HanPost w B T V) := by
  have HB := Lib.hid hb
  have HP := Lib.hid hp
  clear hb hp
  go_enter Try.func31, Try.ntmps31
  go_wp2_with (fail)
  refine han_loop _ _ _ _ _ _ _ _ _ _ _ _ _ _ _ _ _ _ _ _ _ _ _ _ _ _ _ _ _ _ B V T ns w HP HB (Lib.hid ?_)
  intro u4 u5 u6 u7 u8 u9 u10 u11 u12 u13 u14 u15 u16 u17 u18 u19 u20 u21 u22 u23 u24 u25 u26 u27 u28 u29 u30 u31 c out wx hp2 hb2 hs2
  go_wp2_with (fail)
  go_ret
  exact ⟨c, out, rfl, hp2.out, hb2.out, hs2.out⟩
end Go.Proofs.Ytlcpplnajaldgaa
