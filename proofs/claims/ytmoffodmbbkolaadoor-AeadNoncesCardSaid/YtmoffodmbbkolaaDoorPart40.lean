/- Part 40 of the words that the laws share: CXorA. No condition of its own: each theorem says its own. -/
import Derived.Test.YtmoffodmbbkolaaDoorPart9
import Derived.Test.YtmoffodmbbkolaaDoorPart3
import Derived.Deep.RegionLaw

/- chacha's Xor: the loop over the bytes of one block. Conditions: at most 1000000 bytes; a block of 64. -/
namespace Go.Proofs.YtmoffodmbbkolaaDoor
open Go.RowKit
attribute [local go_sem ↓] Go.wp_at_zero Go.wp_at_succ

/-- The first m bytes, and zeros in the place of the rest. -/
def rowX (X : List UInt8) (m : Nat) : List UInt8 := X.take m ++ List.replicate (X.length - m) 0
theorem rowX_length (X : List UInt8) {m : Nat} (h : m ≤ X.length) : (rowX X m).length = X.length := by unfold rowX; simp; omega
theorem rowX_set (X : List UInt8) {m : Nat} (h : m < X.length) : (rowX X m).set m X[m] = rowX X (m + 1) := by
  unfold rowX
  have hl : (X.take m).length = m := by simp; omega
  rw [List.set_append_right _ _ (by omega), hl, Nat.sub_self, show X.length - m = (X.length - (m + 1)) + 1 by omega, List.replicate_succ, List.set_cons_zero, show X.take (m + 1) = X.take m ++ [X[m]] from List.take_succ_eq_append_getElem h, List.append_assoc]
  rfl
theorem rowX_full (X : List UInt8) : rowX X X.length = X := by simp [rowX]
theorem rowX_zero (X : List UInt8) : rowX X 0 = List.replicate X.length 0 := by simp [rowX]
theorem chaXor_at (k nonce : List UInt8) (n : Nat) (b : List UInt8) (j : Nat) (h : j < b.length) : (chaXor k nonce n b)[j]'(by rw [chaXor_length]; exact h) = b[j] ^^^ chaS k nonce n j := by simp [chaXor]
theorem cell_set_drew {w : World} {B j : Nat} {v u : Value} {p : Addr} (hne : p.block ≠ B) (h : w.cell? p = some u) : (w.setCell ⟨B, j, none⟩ v).drew.cell? p = some u :=
  ((Sole.setCell w B j v).cell hne).trans h
def XinRel (TO : Nat) (T : TypeId) (X : List UInt8) (f c : Nat) (w : World) (v : Value) (W : World) : Prop :=
  ∃ i : Nat, v = .int .i64 (i : Int) ∧ i ≤ c ∧ Blk W TO T ((rowX X (f + i)).map bv) ∧ Sole w W TO
noncomputable def body_xin : Code := (((Tryd.f18.body.map loopsOf).getD [])[1]?).getD .skip
set_option maxRecDepth 100000 in
set_option maxHeartbeats 2000000 in
theorem xin_loop (c0 c1 c2 c4 c5 c6 c7 c8 c9 c13 c14 c15 c16 c17 c18 c19 c20 c21 c22 c23 c24 c25 c26 c27 c28 c29 c30 c31 c32 c35 c36 c37 c38 c39 c40 c41 c42 c43 c44 c45 c46 c47 c48 c49 c50 c51 c52 c53 c54 c55 c56 c57 : Value) (v : Value) (k nonce bs : List UInt8) (n q f c TO NS : Nat) (T T2 : TypeId) (w : World) (hv : Hid (Rd w v bs)) (hvb : Hid (∀ g, v.ownBlock = some g → g ≠ TO)) (hl : bs.length ≤ 1000000) (hc : c ≤ 64) (HF : Hid (f = 64 * q)) (hq : f + c ≤ bs.length) (hne : NS ≠ TO)
    (hs : Hid (Blk w NS T2 ((chaBlock k ((n + q) % 4294967296) nonce).map bv))) (h0 : Hid (Blk w TO T ((rowX (chaXor k nonce n bs) f).map bv))) {Q : Exit → Act → World → Prop}
    (HQ : Hid (∀ (u13 u34 u35 u36 u37 u38 u39 u40 u41 u42 u43 u44 u45 u46 u47 u48 u49 u50 u51 u52 : Value) (wx : World), Hid (Blk wx TO T ((rowX (chaXor k nonce n bs) (f + c)).map bv)) → Hid (Sole w wx TO) → Q (.exit 2) ⟨List.toArray (c0 :: c1 :: c2 :: v :: c4 :: c5 :: c6 :: c7 :: c8 :: c9 :: (.slice (some ⟨TO, 0, none⟩) bs.length bs.length) :: (.int .i64 (f : Int)) :: (.pointer (some ⟨NS, 0, none⟩)) :: u13 :: c14 :: c15 :: c16 :: c17 :: c18 :: c19 :: c20 :: c21 :: c22 :: c23 :: c24 :: c25 :: c26 :: c27 :: c28 :: c29 :: c30 :: c31 :: c32 :: (.int .i64 (c : Int)) :: u34 :: u35 :: u36 :: u37 :: u38 :: u39 :: u40 :: u41 :: u42 :: u43 :: u44 :: u45 :: u46 :: u47 :: u48 :: u49 :: u50 :: u51 :: u52 :: c53 :: c54 :: c55 :: c56 :: c57 :: []), []⟩ wx)) :
    (Code.loop body_xin).wp Tryd.prog Q ⟨List.toArray (c0 :: c1 :: c2 :: v :: c4 :: c5 :: c6 :: c7 :: c8 :: c9 :: (.slice (some ⟨TO, 0, none⟩) bs.length bs.length) :: (.int .i64 (f : Int)) :: (.pointer (some ⟨NS, 0, none⟩)) :: c13 :: c14 :: c15 :: c16 :: c17 :: c18 :: c19 :: c20 :: c21 :: c22 :: c23 :: c24 :: c25 :: c26 :: c27 :: c28 :: c29 :: c30 :: c31 :: c32 :: (.int .i64 (c : Int)) :: (.int .i64 0) :: c35 :: c36 :: c37 :: c38 :: c39 :: c40 :: c41 :: c42 :: c43 :: c44 :: c45 :: c46 :: c47 :: c48 :: c49 :: c50 :: c51 :: c52 :: c53 :: c54 :: c55 :: c56 :: c57 :: []), []⟩ w := by
  obtain ⟨A, cp, rfl, hc1, hc2, hA⟩ := hv.out.form
  have HA := Lib.hid hA
  obtain ⟨X, hX⟩ := ex_eq1 (chaXor k nonce n bs)
  have HX := Lib.hid hX
  rw [← hX] at HQ h0
  have LX : Hid (X.length = bs.length) := by show _ = _; rw [hX, chaXor_length]
  have lI : (bs.length : Int) ≤ 1000000 := by omega
  have cI : (c : Int) ≤ 64 := by omega
  have fI : (f : Int) + (c : Int) ≤ bs.length := by omega
  unfold maxLen at hc2
  clear hA hX
  unfold body_xin
  conv => arg 2; arg 1; whnf
  go_loopw [34] (fun v wx => XinRel TO T X f c w v wx) (fun v _ => c - (intOf v).toNat)
  case atStart => exact ⟨0, rfl, by omega, h0.out, Sole.refl _ _⟩
  case round =>
    obtain ⟨i, rfl, hi, hblk, so⟩ := hrel
    by_cases hlt : i < c
    · have hI : (i : Int) < c := by omega
      obtain ⟨b, off, rfl, hb1, hb2⟩ := HA.out (by omega)
      have hbT : b ≠ TO := hvb.out b rfl
      have hcx := (so.cell (p := ⟨b, off + (f + i), none⟩) hbT).trans (hb2 (f + i) (by omega))
      obtain ⟨x, hx⟩ : ∃ x, x = bs[f + i]'(by omega) := ⟨_, rfl⟩
      rw [← hx] at hcx
      obtain ⟨y, hy⟩ : ∃ y, y = (chaBlock k ((n + q) % 4294967296) nonce).getD i 0 := ⟨_, rfl⟩
      have hcy : wr.cell? ⟨NS, i, none⟩ = some (.int .u8 (y.toNat : Int)) := by
        rw [(so.blk hs.out hne).cell i, List.getElem?_map, hy, List.getD, List.getElem?_eq_getElem (by rw [chaBlock_length]; omega)]
        rfl
      have f0 : wr.frozen? ⟨TO, f + i, none⟩ = false := hblk.free _
      obtain ⟨u, hu⟩ : ∃ u, wr.cell? ⟨TO, f + i, none⟩ = some u := by
        refine ⟨((rowX X (f + i)).map bv)[f + i]'?_, ?_⟩
        · rw [List.length_map, rowX_length X (by rw [LX.out]; omega), LX.out]; omega
        · rw [hblk.cell]; exact List.getElem?_eq_getElem _
      have HE : Hid ((rowX X (f + i)).set (f + i) (x ^^^ y) = rowX X (f + i + 1)) := Lib.hid (by
        rw [← rowX_set X (by rw [LX.out]; omega)]
        congr 1
        have e := chaXor_at k nonce n bs (f + i) (by omega)
        have e2 : chaS k nonce n (f + i) = y := by
          rw [hy]
          unfold chaS
          rw [HF.out, show (64 * q + i) / 64 = q by omega, show (64 * q + i) % 64 = i by omega]
        rw [e2, ← hx] at e
        rw [← e]
        congr 1
        exact HX.out.symm)
      have HXY := Lib.hid (xor_u8 x y)
      have HB := Lib.hid hblk
      have HL := Lib.hid so
      have xI : (x.toNat : Int) ≤ 255 := by have := x.toNat_lt; omega
      have yI : (y.toNat : Int) ≤ 255 := by have := y.toNat_lt; omega
      have i1 : IntKind.i64.wrap ((f : Int) + (i : Int)) = (f : Int) + (i : Int) := IntWalk.i64_in _ (by omega)
      have i2 : (0 : Int) ≤ (f : Int) + (i : Int) := by omega
      have i3 : (f : Int) + (i : Int) < bs.length := by omega
      have i4 : ((f : Int) + (i : Int)).toNat = f + i := by omega
      have i5 : (i : Int) < 64 := by omega
      have HBT := Lib.hid hbT
      have HCX := Lib.hid hcx
      have HCY := Lib.hid hcy
      clear hblk so hi hx hy hb2 hbT
      go_wp2_with (fail)
      go_region_held3 (fun W => W.cell? ⟨b, off + (f + i), none⟩ = some (.int .u8 (x.toNat : Int)) ∧ W.cell? ⟨NS, i, none⟩ = some (.int .u8 (y.toNat : Int))) (first | exact ⟨cell_set_drew HBT.out HCX.out, cell_set_drew hne HCY.out⟩ | go_keep) (fail)
      clear i1
      go_wp2_with (fail)
      go_roundw
      case rel =>
        rw [HXY.out]
        have h := HB.out.set (f + i) (bv (x ^^^ y))
        rw [← List.map_set, HE.out] at h
        exact ⟨i + 1, by go_num, by omega, h.drew, HL.out.trans ⟨(Sole.setCell wr TO (f + i) (bv (x ^^^ y))).below.drew, (Sole.setCell wr TO (f + i) (bv (x ^^^ y))).size, (Sole.setCell wr TO (f + i) (bv (x ^^^ y))).other⟩⟩
      case measure => simp [intOf]; omega
    · obtain rfl : i = c := by omega
      have HB := Lib.hid hblk
      have HL := Lib.hid so
      clear hblk so
      go_wp2_with (fail)
      exact HQ.out _ _ _ _ _ _ _ _ _ _ _ _ _ _ _ _ _ _ _ _ _ HB HL
end Go.Proofs.YtmoffodmbbkolaaDoor
