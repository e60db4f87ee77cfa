/- The third reference's Mac: the loop over the sixty-four bytes of the key. Condition: a key of at most 64 bytes. -/
import Derived.Test.YtpjidfcbckndfaaDoorRefSum
import Derived.Test.YtpjidfcbckndfaaDoorTwo
namespace Go.Proofs.YtpjidfcbckndfaaDoor
open Go.RowKit

/-- A key's bytes, noughts behind them up to 64, each with c put together by exclusive or. -/
def padK (xs : List UInt8) : List UInt8 := xs ++ List.replicate (64 - xs.length) 0
def padX (xs : List UInt8) (c : UInt8) : List UInt8 := (padK xs).map (· ^^^ c)
theorem padK_length {xs : List UInt8} (h : xs.length ≤ 64) : (padK xs).length = 64 := by simp [padK]; omega
theorem padX_length {xs : List UInt8} (h : xs.length ≤ 64) (c : UInt8) : (padX xs c).length = 64 := by simp [padX, padK_length h]
theorem xor_u8 (x c : UInt8) : Value.int .u8 (bits .xor .u8 (x.toNat : Int) (c.toNat : Int)) = bv (x ^^^ c) := by
  unfold bv
  rw [u8_xor_nat _ _ x.toNat_lt c.toNat_lt, UInt8.toNat_xor]
theorem padX_succ {xs : List UInt8} (h : xs.length ≤ 64) (c : UInt8) {j : Nat} (hj : j < 64) {x : UInt8} (hx : (padK xs)[j]? = some x) : ((padX xs c).take (j + 1)).map bv = ((padX xs c).take j).map bv ++ [bv (x ^^^ c)] := by
  have hj' : j < (padX xs c).length := by rw [padX_length h]; exact hj
  rw [List.take_succ_eq_append_getElem hj', List.map_append]
  have e : (padX xs c)[j] = x ^^^ c := by
    have h1 : (padX xs c)[j]? = some (x ^^^ c) := by rw [padX, List.getElem?_map, hx]; rfl
    rw [List.getElem?_eq_getElem hj'] at h1
    exact Option.some.inj h1
  rw [e]
  rfl
def MacRel (w : World) (xs : List UInt8) (a b i : Value) (W : World) : Prop :=
  ∃ j : Nat, i = .int .i64 (j : Int) ∧ j ≤ 64 ∧ W.ownsRow w.heap.size 5 1 a j (((padX xs 92).take j).map bv) ∧ W.ownsRow w.heap.size 5 1 b j (((padX xs 54).take j).map bv) ∧ Apart2 a b ∧ Below w.heap.size w W
noncomputable def body_macs : Code := (((Tryd.f11.body.map loopsOf).getD [])[0]?).getD .skip
set_option maxRecDepth 100000 in
set_option maxHeartbeats 1000000 in
theorem macs_loop (c1 c2 c3 c4 c5 c9 c10 c11 c12 c13 c14 c15 c16 c17 c18 c19 c20 c21 c22 c23 c24 c25 c26 c27 c28 c29 c30 c31 c32 c33 c34 c35 c36 c37 c38 c39 c40 c41 c42 c43 c44 c45 c46 c47 c48 c49 c50 c51 c52 : Value) (vk : Value) (xs : List UInt8) (w : World) (hk : Hid (Rd w vk xs)) (hl : xs.length ≤ 64) {Q : Exit → Act → World → Prop}
    (HQ : Hid (∀ (u8 u9 u20 u21 u22 u23 u24 u25 u26 u27 u28 u29 u30 u31 u32 u33 u34 u35 u36 u37 u38 u39 u40 u41 a b : Value) (wx : World), Hid (wx.ownsRow w.heap.size 5 1 a 64 ((padX xs 92).map bv)) → Hid (wx.ownsRow w.heap.size 5 1 b 64 ((padX xs 54).map bv)) → Hid (Apart2 a b) → Hid (Below w.heap.size w wx) → Q (.exit 0) ⟨List.toArray (vk :: c1 :: c2 :: c3 :: c4 :: c5 :: a :: b :: u8 :: u9 :: c10 :: c11 :: c12 :: c13 :: c14 :: c15 :: c16 :: c17 :: c18 :: c19 :: u20 :: u21 :: u22 :: u23 :: u24 :: u25 :: u26 :: u27 :: u28 :: u29 :: u30 :: u31 :: u32 :: u33 :: u34 :: u35 :: u36 :: u37 :: u38 :: u39 :: u40 :: u41 :: c42 :: c43 :: c44 :: c45 :: c46 :: c47 :: c48 :: c49 :: c50 :: c51 :: c52 :: []), []⟩ wx)) :
    (Code.loop body_macs).wp Tryd.prog Q ⟨List.toArray (vk :: c1 :: c2 :: c3 :: c4 :: c5 :: (.slice none 0 0) :: (.slice none 0 0) :: (.int .i64 0) :: c9 :: c10 :: c11 :: c12 :: c13 :: c14 :: c15 :: c16 :: c17 :: c18 :: c19 :: c20 :: c21 :: c22 :: c23 :: c24 :: c25 :: c26 :: c27 :: c28 :: c29 :: c30 :: c31 :: c32 :: c33 :: c34 :: c35 :: c36 :: c37 :: c38 :: c39 :: c40 :: c41 :: c42 :: c43 :: c44 :: c45 :: c46 :: c47 :: c48 :: c49 :: c50 :: c51 :: c52 :: []), []⟩ w := by
  obtain ⟨i0, hi, hz0, hz1, hz2⟩ := info_parts info_u8
  obtain ⟨A, c, rfl, hc1, hc2, hA⟩ := hk.out.form
  unfold maxLen at hc2
  have HA := Lib.hid hA
  have hlI : (xs.length : Int) ≤ 64 := by omega
  clear hA
  unfold body_macs
  conv => arg 2; arg 1; whnf
  go_loopw [6, 7, 8] (fun a b i wx => MacRel w xs a b i wx) (fun _ _ i _ => 64 - (intOf i).toNat)
  case atStart => exact ⟨0, rfl, by omega, World.ownsRow_nil _ _ _ _, World.ownsRow_nil _ _ _ _, Apart2.nil _, Below.refl _ _⟩
  case round =>
    obtain ⟨j, rfl, hj, owa, owb, hap, bl⟩ := hrel
    by_cases hlt : j < 64
    · have hI : (j : Int) < 64 := by omega
      obtain ⟨x, hx⟩ : ∃ x, (padK xs)[j]? = some x := ⟨_, List.getElem?_eq_getElem (by rw [padK_length hl]; omega)⟩
      have HSA := Lib.hid (padX_succ hl 92 hlt hx)
      have HSB := Lib.hid (padX_succ hl 54 hlt hx)
      have qs : w.heap.size ≤ wr.heap.size := bl.size
      have qm : Hid (j + 1 ≤ maxLen) := by show j + 1 ≤ maxLen; unfold maxLen; omega
      have qb : Hid ((j + 1) * 1 ≤ 140737488355328) := by show (j + 1) * 1 ≤ 140737488355328; omega
      have hxl : (x.toNat : Int) ≤ 255 := by have := x.toNat_lt; omega
      have X1 : Value.int .u8 (bits .xor .u8 (x.toNat : Int) 92) = bv (x ^^^ 92) := xor_u8 x 92
      have X2 : Value.int .u8 (bits .xor .u8 (x.toNat : Int) 54) = bv (x ^^^ 54) := xor_u8 x 54
      have HX1 := Lib.hid X1
      have HX2 := Lib.hid X2
      have HAP := Lib.hid hap
      have HBL := Lib.hid bl
      have HOA := Lib.hid owa
      have HOB := Lib.hid owb
      clear X1 X2
      by_cases hlt2 : j < xs.length
      · obtain ⟨b, off, rfl, hb1, hb2⟩ := HA.out (by omega)
        have hI2 : (j : Int) < xs.length := by omega
        have hc := (bl.cell (p := ⟨b, off + j, none⟩) hb1).trans (hb2 j hlt2)
        have e : x = xs[j] := by
          unfold padK at hx
          rw [List.getElem?_append_left hlt2, List.getElem?_eq_getElem hlt2] at hx
          exact (Option.some.inj hx).symm
        rw [← e] at hc
        clear hx hb2 e bl owa owb hap
        go_wp2_with (at_builtin
                     first
                     | refine wpList_append_one_two _ _ _ rfl (.tmp 32) (.tmp 35) _ rfl w.heap.size 5 i0 _ 1 Tryd.underlying22 hi hz0 hz1 hz2 rfl rfl _ _ _ rfl HOA.out u7 _ _ HOB.out HAP.out.symm rfl qm.out qb.out qs ?_
                       intro a2 w2 oa2 ob2 ap2 bl2
                     | refine wpList_append_one_two _ _ _ rfl (.tmp 37) (.tmp 40) _ rfl w.heap.size 5 i0 _ 1 Tryd.underlying22 hi hz0 hz1 hz2 rfl rfl _ _ _ rfl ob2 a2 _ _ oa2 ap2.symm rfl qm.out qb.out (Nat.le_trans qs bl2.size) ?_
                       intro b2 w4 ob4 oa4 ap4 bl4)
        go_roundw
        case rel =>
          rw [HX2.out] at ob4
          rw [HX1.out] at oa4
          exact ⟨j + 1, by go_num, by omega, by rw [HSA.out]; exact oa4, by rw [HSB.out]; exact ob4, ap4, (HBL.out.trans bl2).trans bl4⟩
        case measure => simp [intOf]; omega
      · have hI2 : (xs.length : Int) ≤ j := by omega
        have e : x = 0 := by
          unfold padK at hx
          rw [List.getElem?_append_right (by omega), List.getElem?_replicate, if_pos (by omega)] at hx
          exact (Option.some.inj hx).symm
        subst e
        have HX1 : Hid (Value.int .u8 (bits .xor .u8 0 92) = bv (0 ^^^ 92)) := xor_u8 0 92
        have HX2 : Hid (Value.int .u8 (bits .xor .u8 0 54) = bv (0 ^^^ 54)) := xor_u8 0 54
        clear hx bl owa owb hap
        go_wp2_with (at_builtin
                     first
                     | refine wpList_append_one_two _ _ _ rfl (.tmp 32) (.tmp 35) _ rfl w.heap.size 5 i0 _ 1 Tryd.underlying22 hi hz0 hz1 hz2 rfl rfl _ _ _ rfl HOA.out u7 _ _ HOB.out HAP.out.symm rfl qm.out qb.out qs ?_
                       intro a2 w2 oa2 ob2 ap2 bl2
                     | refine wpList_append_one_two _ _ _ rfl (.tmp 37) (.tmp 40) _ rfl w.heap.size 5 i0 _ 1 Tryd.underlying22 hi hz0 hz1 hz2 rfl rfl _ _ _ rfl ob2 a2 _ _ oa2 ap2.symm rfl qm.out qb.out (Nat.le_trans qs bl2.size) ?_
                       intro b2 w4 ob4 oa4 ap4 bl4)
        go_roundw
        case rel =>
          rw [HX2.out] at ob4
          rw [HX1.out] at oa4
          exact ⟨j + 1, by go_num, by omega, by rw [HSA.out]; exact oa4, by rw [HSB.out]; exact ob4, ap4, (HBL.out.trans bl2).trans bl4⟩
        case measure => simp [intOf]; omega
    · obtain rfl : j = 64 := by omega
      rw [List.take_of_length_le (by rw [padX_length hl]; omega)] at owa owb
      have HOA := Lib.hid owa
      have HOB := Lib.hid owb
      have HAP := Lib.hid hap
      have HBL := Lib.hid bl
      clear owa owb hap bl
      go_wp2_with (fail)
      exact HQ.out _ _ _ _ _ _ _ _ _ _ _ _ _ _ _ _ _ _ _ _ _ _ _ _ _ _ _ HOA HOB HAP HBL
end Go.Proofs.YtpjidfcbckndfaaDoor
