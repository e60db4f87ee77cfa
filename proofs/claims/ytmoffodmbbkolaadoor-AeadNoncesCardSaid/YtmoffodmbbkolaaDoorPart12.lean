/- Part 12 of the words that the laws share: RSealA, REvA, RTagB. No condition of its own: each theorem says its own. -/
import Derived.Test.YtmoffodmbbkolaaDoorPart11
import Derived.Test.YtmoffodmbbkolaaDoorPart5
import Derived.Test.YtmoffodmbbkolaaDoorPart2
import Derived.StillTailTactics
import Derived.IntWalk

/- The sixth reference's Seal and Nonce: their loops: thirty-two bytes of a block as a key; noughts up to a multiple of 16; ten bytes of a nonce. Conditions: the bytes lie below the block that is written. -/
namespace Go.Proofs.YtmoffodmbbkolaaDoor
open Go.RowKit

/-- An array of n bytes whose first i ones are laid. -/
def putC (n : Nat) (bs : List UInt8) (i : Nat) : List Value := (bs.take i).map bv ++ List.replicate (n - i) (Value.int .u8 0)
theorem putC_set {n i : Nat} {bs : List UInt8} {cc : UInt8} (hi : i < n) (h : bs[i]? = some cc) : (putC n bs i).set i (bv cc) = putC n bs (i + 1) := by
  have hl : i < bs.length := (List.getElem?_eq_some_iff.1 h).1
  have h1 : ((bs.take i).map bv).length = i := by rw [List.length_map, List.length_take]; omega
  unfold putC
  rw [List.set_append_right _ _ (by omega), h1, Nat.sub_self, show n - i = (n - (i + 1)) + 1 by omega, List.replicate_succ, List.set_cons_zero, List.take_succ_eq_append_getElem hl]
  rw [List.getElem?_eq_getElem hl] at h
  rw [Option.some.inj h]
  simp
theorem putC_length {n i : Nat} {bs : List UInt8} (hi : i ≤ n) (h : i ≤ bs.length) : (putC n bs i).length = n := by
  simp [putC]
  omega
def PadK (n m : Nat) (T : TypeId) (bs : List UInt8) (w : World) (B : Nat) (i : Value) (wr : World) : Prop :=
  ∃ j : Nat, i = .int .i64 (j : Int) ∧ j ≤ m ∧ Blk wr B T (putC n bs j) ∧ Below B w wr
noncomputable def body_sk : Code := (((Tryd.f12.body.map loopsOf).getD [])[0]?).getD .skip
set_option maxRecDepth 100000 in
set_option maxHeartbeats 2000000 in
theorem sk_loop (c0 c1 c2 c3 c4 c5 c6 c7 c8 c9 c13 c14 c15 c16 c17 c18 c19 c20 c21 c22 c23 c24 c25 c26 c27 c28 c29 c30 c31 c32 c33 c34 c35 c36 c37 c38 c39 c40 c41 c42 c43 c44 c45 c46 c47 c48 c49 c50 c51 c52 c53 c54 c55 c56 c57 c58 c59 c60 c61 c62 c63 c64 c65 c66 c67 c68 c69 : Value) (bs : List UInt8) (hl : bs.length = 64) (w : World) (B b off c : Nat) (hh : Hid (∀ i (h : i < bs.length), w.cell? ⟨b, off + i, none⟩ = some (bv bs[i]))) (hg : b < B) (h0 : Hid (Blk w B 22 (putC 32 bs 0))) {Q : Exit → Act → World → Prop}
    (HQ : Hid (∀ (u12 u22 u23 u24 u25 u26 u27 u28 u29 u30 u31 : Value) (wx : World), Hid (Blk wx B 22 (putC 32 bs 32)) → Hid (Below B w wx) → Q (.exit 0) ⟨List.toArray (c0 :: c1 :: c2 :: c3 :: c4 :: c5 :: c6 :: c7 :: c8 :: c9 :: (.slice (some ⟨b, off, none⟩) 64 c) :: (.pointer (some ⟨B, 0, none⟩)) :: u12 :: c13 :: c14 :: c15 :: c16 :: c17 :: c18 :: c19 :: c20 :: c21 :: u22 :: u23 :: u24 :: u25 :: u26 :: u27 :: u28 :: u29 :: u30 :: u31 :: c32 :: c33 :: c34 :: c35 :: c36 :: c37 :: c38 :: c39 :: c40 :: c41 :: c42 :: c43 :: c44 :: c45 :: c46 :: c47 :: c48 :: c49 :: c50 :: c51 :: c52 :: c53 :: c54 :: c55 :: c56 :: c57 :: c58 :: c59 :: c60 :: c61 :: c62 :: c63 :: c64 :: c65 :: c66 :: c67 :: c68 :: c69 :: []), []⟩ wx)) :
    (Code.loop body_sk).wp Tryd.prog Q ⟨List.toArray (c0 :: c1 :: c2 :: c3 :: c4 :: c5 :: c6 :: c7 :: c8 :: c9 :: (.slice (some ⟨b, off, none⟩) 64 c) :: (.pointer (some ⟨B, 0, none⟩)) :: (.int .i64 0) :: c13 :: c14 :: c15 :: c16 :: c17 :: c18 :: c19 :: c20 :: c21 :: c22 :: c23 :: c24 :: c25 :: c26 :: c27 :: c28 :: c29 :: c30 :: c31 :: c32 :: c33 :: c34 :: c35 :: c36 :: c37 :: c38 :: c39 :: c40 :: c41 :: c42 :: c43 :: c44 :: c45 :: c46 :: c47 :: c48 :: c49 :: c50 :: c51 :: c52 :: c53 :: c54 :: c55 :: c56 :: c57 :: c58 :: c59 :: c60 :: c61 :: c62 :: c63 :: c64 :: c65 :: c66 :: c67 :: c68 :: c69 :: []), []⟩ w := by
  have HLN := Lib.hid hl
  clear hl
  unfold body_sk
  conv => arg 2; arg 1; whnf
  go_loopw [12] (fun i wx => PadK 32 32 22 bs w B i wx) (fun i _ => 32 - (intOf i).toNat)
  case atStart => exact ⟨0, rfl, by omega, h0.out, Below.refl _ _⟩
  case round =>
    obtain ⟨j, rfl, hj, hblk, bl⟩ := hrel
    have HB := Lib.hid hblk
    have HL := Lib.hid bl
    by_cases hlt : j < 32
    · have hI : (j : Int) < 32 := by omega
      have hI2 : (j : Int) < 64 := by omega
      have hjl : j < bs.length := by rw [HLN.out]; omega
      obtain ⟨cc, hcc⟩ : ∃ cc, bs[j]? = some cc := ⟨_, List.getElem?_eq_getElem hjl⟩
      have k4 : wr.cell? ⟨b, off + j, none⟩ = some (bv cc) := by
        rw [bl.cell (p := ⟨b, off + j, none⟩) hg, hh.out j hjl]
        rw [List.getElem?_eq_getElem hjl] at hcc
        rw [Option.some.inj hcc]
      have HS := Lib.hid (hblk.set j (bv cc))
      rw [putC_set hlt hcc] at HS
      have f4 : wr.frozen? ⟨B, j, none⟩ = false := hblk.free j
      obtain ⟨u, hu⟩ : ∃ u, wr.cell? ⟨B, j, none⟩ = some u := by
        refine ⟨(putC 32 bs j)[j]'?_, ?_⟩
        · rw [putC_length (by omega) (by omega)]; omega
        · rw [hblk.cell j]; exact List.getElem?_eq_getElem _
      have HL4 := Lib.hid (bl.setCell (p := ⟨B, j, none⟩) (Nat.le_refl _) (bv cc))
      unfold bv at k4 HS HL4
      clear hcc hblk bl hjl
      go_wp2_with (fail)
      go_roundw
      case rel => exact ⟨j + 1, by go_num, by omega, HS.out, HL4.out⟩
      case measure => simp [intOf]; omega
    · obtain rfl : j = 32 := by omega
      clear hblk bl
      go_wp2_with (fail)
      exact HQ.out _ _ _ _ _ _ _ _ _ _ _ _ HB HL
noncomputable def body_nn : Code := (((Tryd.f17.body.map loopsOf).getD [])[0]?).getD .skip
set_option maxRecDepth 100000 in
set_option maxHeartbeats 2000000 in
theorem nn_loop (c0 c1 c2 c3 c4 c8 c9 c10 c11 c12 c13 c14 c15 c16 c17 c18 c19 c20 c21 c22 c23 c24 : Value) (bs : List UInt8) (hl : bs.length = 10) (w : World) (B b off c : Nat) (hh : Hid (∀ i (h : i < bs.length), w.cell? ⟨b, off + i, none⟩ = some (bv bs[i]))) (hne : b ≠ B) (h0 : Hid (Blk w B 24 (putC 12 bs 0))) {Q : Exit → Act → World → Prop}
    (HQ : Hid (∀ (u7 u14 u15 u16 u17 u18 u19 u20 u21 u22 u23 : Value) (wx : World), Hid (Blk wx B 24 (putC 12 bs 10)) → Hid (Sole w wx B) → Q (.exit 0) ⟨List.toArray (c0 :: c1 :: c2 :: c3 :: c4 :: (.pointer (some ⟨B, 0, none⟩)) :: (.slice (some ⟨b, off, none⟩) 10 c) :: u7 :: c8 :: c9 :: c10 :: c11 :: c12 :: c13 :: u14 :: u15 :: u16 :: u17 :: u18 :: u19 :: u20 :: u21 :: u22 :: u23 :: c24 :: []), []⟩ wx)) :
    (Code.loop body_nn).wp Tryd.prog Q ⟨List.toArray (c0 :: c1 :: c2 :: c3 :: c4 :: (.pointer (some ⟨B, 0, none⟩)) :: (.slice (some ⟨b, off, none⟩) 10 c) :: (.int .i64 0) :: c8 :: c9 :: c10 :: c11 :: c12 :: c13 :: c14 :: c15 :: c16 :: c17 :: c18 :: c19 :: c20 :: c21 :: c22 :: c23 :: c24 :: []), []⟩ w := by
  have HLN := Lib.hid hl
  clear hl
  unfold body_nn
  conv => arg 2; arg 1; whnf
  go_loopw [7] (fun i wx => (∃ j : Nat, i = .int .i64 (j : Int) ∧ j ≤ 10 ∧ Blk wx B 24 (putC 12 bs j) ∧ Sole w wx B)) (fun i _ => 10 - (intOf i).toNat)
  case atStart => exact ⟨0, rfl, by omega, h0.out, Sole.refl _ _⟩
  case round =>
    obtain ⟨j, rfl, hj, hblk, bl⟩ := hrel
    have HB := Lib.hid hblk
    have HL := Lib.hid bl
    by_cases hlt : j < 10
    · have hI : (j : Int) < 10 := by omega
      have hI2 : (j : Int) < 12 := by omega
      have hjl : j < bs.length := by rw [HLN.out]; omega
      obtain ⟨cc, hcc⟩ : ∃ cc, bs[j]? = some cc := ⟨_, List.getElem?_eq_getElem hjl⟩
      have k4 : wr.cell? ⟨b, off + j, none⟩ = some (bv cc) := by
        rw [bl.cell (p := ⟨b, off + j, none⟩) hne, hh.out j hjl]
        rw [List.getElem?_eq_getElem hjl] at hcc
        rw [Option.some.inj hcc]
      have HS := Lib.hid (hblk.set j (bv cc))
      rw [putC_set (by omega) hcc] at HS
      have f4 : wr.frozen? ⟨B, j, none⟩ = false := hblk.free j
      obtain ⟨u, hu⟩ : ∃ u, wr.cell? ⟨B, j, none⟩ = some u := by
        refine ⟨(putC 12 bs j)[j]'?_, ?_⟩
        · rw [putC_length (by omega) (by omega)]; omega
        · rw [hblk.cell j]; exact List.getElem?_eq_getElem _
      have HL4 := Lib.hid (bl.trans (Sole.setCell wr B j (bv cc)))
      unfold bv at k4 HS HL4
      clear hcc hblk bl hjl
      go_wp2_with (fail)
      go_roundw
      case rel => exact ⟨j + 1, by go_num, by omega, HS.out, HL4.out⟩
      case measure => simp [intOf]; omega
    · obtain rfl : j = 10 := by omega
      clear hblk bl
      go_wp2_with (fail)
      exact HQ.out _ _ _ _ _ _ _ _ _ _ _ _ HB HL
def slN : Value → Nat
  | .slice _ n _ => n
  | _ => 0
/-- The bytes behind which the noughts come. -/
def PzRel (w : World) (B : Nat) (xs : List UInt8) (v : Value) (wr : World) : Prop :=
  ∃ (j : Nat) (A : Option Addr) (c : Nat), v = .slice A (xs.length + j) c ∧ j ≤ pz xs.length ∧ wr.ownsRow B 5 1 v (xs.length + j) ((xs ++ List.replicate j 0).map bv) ∧ Below B w wr
theorem pzRel_mk {w wr : World} {B : Nat} {xs : List UInt8} {v : Value} {j : Nat} (hj : j ≤ pz xs.length) (h : wr.ownsRow B 5 1 v (xs.length + j) ((xs ++ List.replicate j 0).map bv)) (hb : Below B w wr) : PzRel w B xs v wr := by
  obtain ⟨A, c, hv⟩ := own_shape h
  exact ⟨j, A, c, hv, hj, h, hb⟩
noncomputable def body_sp : Code := (((Tryd.f12.body.map loopsOf).getD [])[1]?).getD .skip
set_option maxRecDepth 100000 in
set_option maxHeartbeats 2000000 in
theorem sp_loop (c0 c1 c2 c3 c4 c5 c6 c7 c8 c9 c10 c11 c12 c14 c15 c16 c17 c18 c19 c20 c21 c22 c23 c24 c25 c26 c27 c28 c29 c30 c31 c32 c33 c34 c35 c36 c37 c38 c39 c40 c41 c42 c43 c44 c45 c46 c47 c48 c49 c50 c51 c52 c53 c54 c55 c56 c57 c58 c59 c60 c61 c62 c63 c64 c65 c66 c67 c68 c69 : Value) (xs : List UInt8) (B : Nat) (w : World) (v0 : Value) (hB : B ≤ w.heap.size) (hlz : (xs.length : Int) ≤ 1000000) (h0 : Hid (PzRel w B xs v0 w)) {Q : Exit → Act → World → Prop}
    (HQ : Hid (∀ (u35 u36 u37 u38 u39 u40 u41 v : Value) (wx : World), Hid (wx.ownsRow B 5 1 v (xs.length + pz xs.length) ((xs ++ zs xs.length).map bv)) → Hid (Below B w wx) → Q (.exit 2) ⟨List.toArray (c0 :: c1 :: c2 :: c3 :: c4 :: c5 :: c6 :: c7 :: c8 :: c9 :: c10 :: c11 :: c12 :: v :: c14 :: c15 :: c16 :: c17 :: c18 :: c19 :: c20 :: c21 :: c22 :: c23 :: c24 :: c25 :: c26 :: c27 :: c28 :: c29 :: c30 :: c31 :: c32 :: c33 :: c34 :: u35 :: u36 :: u37 :: u38 :: u39 :: u40 :: u41 :: c42 :: c43 :: c44 :: c45 :: c46 :: c47 :: c48 :: c49 :: c50 :: c51 :: c52 :: c53 :: c54 :: c55 :: c56 :: c57 :: c58 :: c59 :: c60 :: c61 :: c62 :: c63 :: c64 :: c65 :: c66 :: c67 :: c68 :: c69 :: []), []⟩ wx)) :
    (Code.loop body_sp).wp Tryd.prog Q ⟨List.toArray (c0 :: c1 :: c2 :: c3 :: c4 :: c5 :: c6 :: c7 :: c8 :: c9 :: c10 :: c11 :: c12 :: v0 :: c14 :: c15 :: c16 :: c17 :: c18 :: c19 :: c20 :: c21 :: c22 :: c23 :: c24 :: c25 :: c26 :: c27 :: c28 :: c29 :: c30 :: c31 :: c32 :: c33 :: c34 :: c35 :: c36 :: c37 :: c38 :: c39 :: c40 :: c41 :: c42 :: c43 :: c44 :: c45 :: c46 :: c47 :: c48 :: c49 :: c50 :: c51 :: c52 :: c53 :: c54 :: c55 :: c56 :: c57 :: c58 :: c59 :: c60 :: c61 :: c62 :: c63 :: c64 :: c65 :: c66 :: c67 :: c68 :: c69 :: []), []⟩ w := by
  obtain ⟨i0, hi, hz0, hz1, hz2⟩ := info_parts info_u8
  unfold body_sp
  conv => arg 2; arg 1; whnf
  go_loopw [13] (fun v wr => PzRel w B xs v wr) (fun v _ => xs.length + 16 - slN v)
  case atStart => exact h0.out
  case round =>
    obtain ⟨j, A, cp, rfl, hj, own, bl⟩ := hrel
    have hBs : B ≤ wr.heap.size := Nat.le_trans hB bl.size
    have hj16 : j < 16 := Nat.lt_of_le_of_lt hj (pz_lt _)
    by_cases hm : (xs.length + j) % 16 = 0
    · have hne : ((xs.length : Int) + j) % 16 = 0 := by omega
      obtain rfl : j = pz xs.length := pz_done hj hm
      have HO := Lib.hid own
      have HL := Lib.hid bl
      clear own bl hj hm
      go_wp2_with (fail)
      exact HQ.out _ _ _ _ _ _ _ _ _ HO HL
    · have hne : ((xs.length : Int) + j) % 16 ≠ 0 := by omega
      have hlt := pz_more hj hm
      clear hj hm
      go_wp2_with (at_builtin
                   refine wpList_append_one _ _ _ rfl _ _ _ rfl B 5 i0 _ 1 Tryd.underlying26 hi hz0 hz1 hz2 rfl rfl _ _ _ rfl own rfl ?_ ?_ ?_ ?_
                   · unfold maxLen; omega
                   · omega
                   · exact hBs
                   intro v3 w3 own3 b3)
      refine ⟨pzRel_mk (j := j + 1) (by omega) ?_ (bl.trans b3), by
        obtain ⟨g3, c3, hv3, _⟩ := own_form own3 (by omega)
        rw [hv3]
        simp only [slN]
        omega⟩
      rw [List.replicate_succ']
      simpa [bv, Nat.add_assoc] using own3
noncomputable def body_sq : Code := (((Tryd.f12.body.map loopsOf).getD [])[2]?).getD .skip
set_option maxRecDepth 100000 in
set_option maxHeartbeats 2000000 in
theorem sq_loop (c0 c1 c2 c3 c4 c5 c6 c7 c8 c9 c10 c11 c12 c14 c15 c16 c17 c18 c19 c20 c21 c22 c23 c24 c25 c26 c27 c28 c29 c30 c31 c32 c33 c34 c35 c36 c37 c38 c39 c40 c41 c42 c43 c44 c45 c46 c47 c48 c49 c50 c51 c52 c53 c54 c55 c56 c57 c58 c59 c60 c61 c62 c63 c64 c65 c66 c67 c68 c69 : Value) (xs : List UInt8) (B : Nat) (w : World) (v0 : Value) (hB : B ≤ w.heap.size) (hlz : (xs.length : Int) ≤ 1000000) (h0 : Hid (PzRel w B xs v0 w)) {Q : Exit → Act → World → Prop}
    (HQ : Hid (∀ (u45 u46 u47 u48 u49 u50 u51 v : Value) (wx : World), Hid (wx.ownsRow B 5 1 v (xs.length + pz xs.length) ((xs ++ zs xs.length).map bv)) → Hid (Below B w wx) → Q (.exit 4) ⟨List.toArray (c0 :: c1 :: c2 :: c3 :: c4 :: c5 :: c6 :: c7 :: c8 :: c9 :: c10 :: c11 :: c12 :: v :: c14 :: c15 :: c16 :: c17 :: c18 :: c19 :: c20 :: c21 :: c22 :: c23 :: c24 :: c25 :: c26 :: c27 :: c28 :: c29 :: c30 :: c31 :: c32 :: c33 :: c34 :: c35 :: c36 :: c37 :: c38 :: c39 :: c40 :: c41 :: c42 :: c43 :: c44 :: u45 :: u46 :: u47 :: u48 :: u49 :: u50 :: u51 :: c52 :: c53 :: c54 :: c55 :: c56 :: c57 :: c58 :: c59 :: c60 :: c61 :: c62 :: c63 :: c64 :: c65 :: c66 :: c67 :: c68 :: c69 :: []), []⟩ wx)) :
    (Code.loop body_sq).wp Tryd.prog Q ⟨List.toArray (c0 :: c1 :: c2 :: c3 :: c4 :: c5 :: c6 :: c7 :: c8 :: c9 :: c10 :: c11 :: c12 :: v0 :: c14 :: c15 :: c16 :: c17 :: c18 :: c19 :: c20 :: c21 :: c22 :: c23 :: c24 :: c25 :: c26 :: c27 :: c28 :: c29 :: c30 :: c31 :: c32 :: c33 :: c34 :: c35 :: c36 :: c37 :: c38 :: c39 :: c40 :: c41 :: c42 :: c43 :: c44 :: c45 :: c46 :: c47 :: c48 :: c49 :: c50 :: c51 :: c52 :: c53 :: c54 :: c55 :: c56 :: c57 :: c58 :: c59 :: c60 :: c61 :: c62 :: c63 :: c64 :: c65 :: c66 :: c67 :: c68 :: c69 :: []), []⟩ w := by
  obtain ⟨i0, hi, hz0, hz1, hz2⟩ := info_parts info_u8
  unfold body_sq
  conv => arg 2; arg 1; whnf
  go_loopw [13] (fun v wr => PzRel w B xs v wr) (fun v _ => xs.length + 16 - slN v)
  case atStart => exact h0.out
  case round =>
    obtain ⟨j, A, cp, rfl, hj, own, bl⟩ := hrel
    have hBs : B ≤ wr.heap.size := Nat.le_trans hB bl.size
    have hj16 : j < 16 := Nat.lt_of_le_of_lt hj (pz_lt _)
    by_cases hm : (xs.length + j) % 16 = 0
    · have hne : ((xs.length : Int) + j) % 16 = 0 := by omega
      obtain rfl : j = pz xs.length := pz_done hj hm
      have HO := Lib.hid own
      have HL := Lib.hid bl
      clear own bl hj hm
      go_wp2_with (fail)
      exact HQ.out _ _ _ _ _ _ _ _ _ HO HL
    · have hne : ((xs.length : Int) + j) % 16 ≠ 0 := by omega
      have hlt := pz_more hj hm
      clear hj hm
      go_wp2_with (at_builtin
                   refine wpList_append_one _ _ _ rfl _ _ _ rfl B 5 i0 _ 1 Tryd.underlying26 hi hz0 hz1 hz2 rfl rfl _ _ _ rfl own rfl ?_ ?_ ?_ ?_
                   · unfold maxLen; omega
                   · omega
                   · exact hBs
                   intro v3 w3 own3 b3)
      refine ⟨pzRel_mk (j := j + 1) (by omega) ?_ (bl.trans b3), by
        obtain ⟨g3, c3, hv3, _⟩ := own_form own3 (by omega)
        rw [hv3]
        simp only [slN]
        omega⟩
      rw [List.replicate_succ']
      simpa [bv, Nat.add_assoc] using own3
end Go.Proofs.YtmoffodmbbkolaaDoor

/- The fifth reference's even: its loops. Conditions: at most 20 digits, none of them above 2^47. -/
namespace Go.Proofs.YtmoffodmbbkolaaDoor
open Go.RowKit

theorem fold_mod {a b x i : Nat} (h : a % p130 = b % p130) (hi : 10 ≤ i) : (a + 5 * x * 8192 ^ (i - 10)) % p130 = (b + 8192 ^ i * x) % p130 := by
  have e : (8192 : Nat) ^ i = 8192 ^ (i - 10) * (p130 + 5) := by rw [← p130_eq, ← Nat.pow_add]; congr 1; omega
  obtain ⟨y, hy⟩ : ∃ y, y = (8192 : Nat) ^ (i - 10) := ⟨_, rfl⟩
  rw [e, ← hy]
  have e2 : b + y * (p130 + 5) * x = (b + 5 * x * y) + p130 * (y * x) := by
    rw [Nat.mul_add, Nat.add_mul, Nat.mul_comm y p130, Nat.mul_assoc p130, Nat.mul_comm y 5, Nat.mul_assoc 5, Nat.mul_comm y x, Nat.mul_assoc 5]
    omega
  rw [e2, Nat.add_mul_mod_self_left, Nat.add_mod, h, ← Nat.add_mod]
theorem dv_take_succ (l : List Nat) {i : Nat} (h : i < l.length) : dv (l.take (i + 1)) = dv (l.take i) + 8192 ^ i * l.getD i 0 := by
  rw [List.take_succ_eq_append_getElem h, dv_append, List.length_take, Nat.min_eq_left (by omega), List.getD, List.getElem?_eq_getElem h]
  simp [dv]
theorem getD_set_self {l : List Nat} {p x : Nat} (h : p < l.length) : (l.set p x).getD p 0 = x := by rw [List.getD, List.getElem?_set_self h]; rfl
theorem getD_set_ne {l : List Nat} {p q x : Nat} (h : p ≠ q) : (l.set p x).getD q 0 = l.getD q 0 := by rw [List.getD, List.getD, List.getElem?_set_ne h]
/-- How great a digit may be behind i of the fold's rounds. -/
def fldB (q i : Nat) : Nat := (if q < i then 140737488355328 else 0) + (if q + 10 < i then 703687441776640 else 0)
def FldP (ds out : List Nat) (i : Nat) : Prop := out.length = 10 ∧ dv out % p130 = dv (ds.take i) % p130 ∧ ∀ q, q < 10 → out.getD q 0 ≤ fldB q i
def FldRel (w : World) (B : Nat) (ds : List Nat) (v : Value) (W : World) : Prop := ∃ (i : Nat) (out : List Nat), v = .int .i64 (i : Int) ∧ i ≤ ds.length ∧ FldP ds out i ∧ Blk W B 39 (out.map wq) ∧ Sole w W B
theorem fld_low {ds out : List Nat} {i x : Nat} (h : FldP ds out i) (hi : i < ds.length) (h10 : i < 10) (hx : x = ds.getD i 0) (hxl : x ≤ 140737488355328) : FldP ds (out.set i (out.getD i 0 + x)) (i + 1) := by
  obtain ⟨h1, h2, h3⟩ := h
  refine ⟨by rw [List.length_set]; exact h1, ?_, fun q hq => ?_⟩
  · rw [dv_set _ _ _ (by omega), dv_take_succ _ hi, ← hx, Nat.add_mod, h2, ← Nat.add_mod, Nat.mul_comm x]
  · by_cases e : i = q
    · subst e
      rw [getD_set_self (by omega)]
      have := h3 i h10
      unfold fldB at this ⊢
      split at this <;> split at this <;> split <;> split <;> omega
    · rw [getD_set_ne e]
      have := h3 q hq
      unfold fldB at this ⊢
      split at this <;> split at this <;> split <;> split <;> omega
theorem fld_high {ds out : List Nat} {i x : Nat} (h : FldP ds out i) (hi : i < ds.length) (h10 : 10 ≤ i) (h20 : i < 20) (hx : x = ds.getD i 0) (hxl : x ≤ 140737488355328) : FldP ds (out.set (i - 10) (out.getD (i - 10) 0 + 5 * x)) (i + 1) := by
  obtain ⟨h1, h2, h3⟩ := h
  refine ⟨by rw [List.length_set]; exact h1, ?_, fun q hq => ?_⟩
  · rw [dv_set _ _ _ (by omega), dv_take_succ _ hi, ← hx]
    exact fold_mod h2 h10
  · by_cases e : i - 10 = q
    · subst e
      rw [getD_set_self (by omega)]
      have := h3 (i - 10) (by omega)
      unfold fldB at this ⊢
      split at this <;> split at this <;> split <;> split <;> omega
    · rw [getD_set_ne e]
      have := h3 q hq
      unfold fldB at this ⊢
      split at this <;> split at this <;> split <;> split <;> omega
noncomputable def body_fld : Code := (((Tryd.f35.body.map loopsOf).getD [])[0]?).getD .skip
set_option maxRecDepth 100000 in
set_option maxHeartbeats 2000000 in
theorem fld_loop (c1 c2 c5 c6 c7 c8 c9 c10 c11 c12 c13 c14 c15 c16 c17 c18 c19 c20 c21 c22 c23 c24 c25 c26 c27 c28 c29 c30 c31 c32 c33 c34 c35 c36 c37 c38 c39 c40 c41 c42 c43 c44 c45 c46 c47 c48 c49 c50 c51 c52 c53 c54 c55 c56 c57 c58 c59 c60 c61 c62 c63 c64 c65 c66 c67 c68 c69 c70 c71 c72 c73 c74 c75 c76 c77 c78 c79 c80 c81 c82 c83 c84 c85 c86 c87 c88 c89 c90 c91 c92 : Value) (D B n cd : Nat) (ds : List Nat) (w : World) (hn : ds.length = n) (h20 : n ≤ 20) (hm : Hid (∀ x ∈ ds, x ≤ 140737488355328)) (hne : D ≠ B) (hd : Hid (∀ i, i < n → w.cell? ⟨D, i, none⟩ = some (.int .u64 ((ds.getD i 0 : Nat) : Int)))) (h0 : Hid (Blk w B 39 ((List.replicate 10 0).map wq))) {Q : Exit → Act → World → Prop}
    (HQ : Hid (∀ (u4 u10 u11 u12 u13 u14 u15 u16 u17 u18 u19 u20 u21 u22 u23 u24 u25 u26 u27 u28 u29 u30 u31 u32 u33 u34 u35 u36 u37 u38 u39 u40 u41 u42 u43 u44 : Value) (out : List Nat) (wx : World), Hid (FldP ds out n) → Hid (Blk wx B 39 (out.map wq)) → Hid (Sole w wx B) → Q (.exit 0) ⟨List.toArray ((.slice (some ⟨D, 0, none⟩) n cd) :: c1 :: c2 :: (.slice (some ⟨B, 0, none⟩) 10 10) :: u4 :: c5 :: c6 :: c7 :: c8 :: c9 :: u10 :: u11 :: u12 :: u13 :: u14 :: u15 :: u16 :: u17 :: u18 :: u19 :: u20 :: u21 :: u22 :: u23 :: u24 :: u25 :: u26 :: u27 :: u28 :: u29 :: u30 :: u31 :: u32 :: u33 :: u34 :: u35 :: u36 :: u37 :: u38 :: u39 :: u40 :: u41 :: u42 :: u43 :: u44 :: c45 :: c46 :: c47 :: c48 :: c49 :: c50 :: c51 :: c52 :: c53 :: c54 :: c55 :: c56 :: c57 :: c58 :: c59 :: c60 :: c61 :: c62 :: c63 :: c64 :: c65 :: c66 :: c67 :: c68 :: c69 :: c70 :: c71 :: c72 :: c73 :: c74 :: c75 :: c76 :: c77 :: c78 :: c79 :: c80 :: c81 :: c82 :: c83 :: c84 :: c85 :: c86 :: c87 :: c88 :: c89 :: c90 :: c91 :: c92 :: []), []⟩ wx)) :
    (Code.loop body_fld).wp Tryd.prog Q ⟨List.toArray ((.slice (some ⟨D, 0, none⟩) n cd) :: c1 :: c2 :: (.slice (some ⟨B, 0, none⟩) 10 10) :: (.int .i64 0) :: c5 :: c6 :: c7 :: c8 :: c9 :: c10 :: c11 :: c12 :: c13 :: c14 :: c15 :: c16 :: c17 :: c18 :: c19 :: c20 :: c21 :: c22 :: c23 :: c24 :: c25 :: c26 :: c27 :: c28 :: c29 :: c30 :: c31 :: c32 :: c33 :: c34 :: c35 :: c36 :: c37 :: c38 :: c39 :: c40 :: c41 :: c42 :: c43 :: c44 :: c45 :: c46 :: c47 :: c48 :: c49 :: c50 :: c51 :: c52 :: c53 :: c54 :: c55 :: c56 :: c57 :: c58 :: c59 :: c60 :: c61 :: c62 :: c63 :: c64 :: c65 :: c66 :: c67 :: c68 :: c69 :: c70 :: c71 :: c72 :: c73 :: c74 :: c75 :: c76 :: c77 :: c78 :: c79 :: c80 :: c81 :: c82 :: c83 :: c84 :: c85 :: c86 :: c87 :: c88 :: c89 :: c90 :: c91 :: c92 :: []), []⟩ w := by
  subst hn
  have lI : (ds.length : Int) ≤ 20 := by omega
  unfold body_fld
  conv => arg 2; arg 1; whnf
  go_loopw [4] (fun v wx => FldRel w B ds v wx) (fun v _ => ds.length - (intOf v).toNat)
  case atStart => exact ⟨0, List.replicate 10 0, rfl, by omega, ⟨by simp, by rw [dv_zeros]; rfl, fun q _ => by rw [List.getD, List.getElem?_replicate]; split <;> simp⟩, h0.out, Sole.refl _ _⟩
  case round =>
    obtain ⟨i, out, rfl, hi, hp, hblk, so⟩ := hrel
    by_cases hlt : i < ds.length
    · have hI : (i : Int) < ds.length := by omega
      obtain ⟨x, hx⟩ : ∃ x, x = ds.getD i 0 := ⟨_, rfl⟩
      have xl : x ≤ 140737488355328 := by
        rw [hx, List.getD, List.getElem?_eq_getElem hlt]
        exact hm.out _ (List.getElem_mem hlt)
      have cx := (so.cell (p := ⟨D, i, none⟩) hne).trans (hd.out i hlt)
      rw [← hx] at cx
      have HB := Lib.hid hblk
      have HL := Lib.hid so
      have HP := Lib.hid hp
      by_cases h10 : i < 10
      · have h10I : (i : Int) < 10 := by omega
        obtain ⟨e, he⟩ : ∃ e, e = out.getD i 0 := ⟨_, rfl⟩
        have el : e ≤ 844424930131968 := by
          have := hp.2.2 i h10
          rw [← he] at this
          unfold fldB at this
          split at this <;> split at this <;> omega
        have ce := rq_cell hblk (i := i) (by rw [hp.1]; exact h10)
        rw [← he] at ce
        have f0 : wr.frozen? ⟨B, i, none⟩ = false := hblk.free _
        have HN := Lib.hid (fld_low hp hlt h10 hx xl)
        rw [← he] at HN
        have a1 : IntKind.u64.wrap ((e : Int) + (x : Int)) = (e : Int) + (x : Int) := IntWalk.u64_in _ (by omega)
        clear hx he hp hblk so hi xl el
        go_wp2_with (fail)
        go_still_tail 12, (by kernel_rfl)
        change wpList _ _ _ _ _ wr.drew
        go_wp2_with (fail)
        go_roundw
        case rel =>
          have h := HB.out.set i (wq (e + x))
          rw [← List.map_set] at h
          have e7 : Value.int .u64 ((e : Int) + (x : Int)) = wq (e + x) := congrArg (Value.int .u64) (by omega)
          rw [e7]
          exact ⟨i + 1, _, by go_num, by omega, HN.out, h.drew, HL.out.trans ⟨(Sole.setCell wr B i (wq (e + x))).below.drew, (Sole.setCell wr B i (wq (e + x))).size, (Sole.setCell wr B i (wq (e + x))).other⟩⟩
        case measure => simp [intOf]; omega
      · have h10I : ¬ (i : Int) < 10 := by omega
        obtain ⟨j, hj⟩ : ∃ j, j = i - 10 := ⟨_, rfl⟩
        have j10 : j < 10 := by omega
        have jI : (j : Int) < 10 := by omega
        obtain ⟨e, he⟩ : ∃ e, e = out.getD j 0 := ⟨_, rfl⟩
        have el : e ≤ 844424930131968 := by
          have := hp.2.2 j j10
          rw [← he] at this
          unfold fldB at this
          split at this <;> split at this <;> omega
        have ce := rq_cell hblk (i := j) (by rw [hp.1]; exact j10)
        rw [← he] at ce
        have f0 : wr.frozen? ⟨B, j, none⟩ = false := hblk.free _
        have HN := Lib.hid (fld_high hp hlt (by omega) (by omega) hx xl)
        rw [← hj, ← he] at HN
        have a0 : IntKind.i64.wrap ((i : Int) - 10) = (j : Int) := by
          have e1 : (i : Int) - 10 = (j : Int) := by omega
          rw [e1]
          exact IntWalk.i64_in _ (by omega)
        have a00 : IntKind.i64.wrap (j : Int) = (j : Int) := IntWalk.i64_in _ (by clear a0; omega)
        have a0' : (i : Int) - 10 = (j : Int) := by clear a0 a00; omega
        have a1 : IntKind.u64.wrap (5 * (x : Int)) = 5 * (x : Int) := IntWalk.u64_in _ (by clear a0 a00 a0'; omega)
        have a2 : IntKind.u64.wrap ((e : Int) + 5 * (x : Int)) = (e : Int) + 5 * (x : Int) := IntWalk.u64_in _ (by clear a0 a00 a0' a1; omega)
        clear hx he hp hblk so hi xl el hj j10
        go_wp2_with (fail)
        go_still_tail 15, (by kernel_rfl)
        change wpList _ _ _ _ _ wr.drew
        go_wp2_with (fail)
        clear a0 a00 a0' a1 a2
        go_roundw
        case rel =>
          have h := HB.out.set j (wq (e + 5 * x))
          rw [← List.map_set] at h
          have e7 : Value.int .u64 ((e : Int) + 5 * (x : Int)) = wq (e + 5 * x) := congrArg (Value.int .u64) (by omega)
          rw [e7]
          exact ⟨i + 1, _, by go_num, by omega, HN.out, h.drew, HL.out.trans ⟨(Sole.setCell wr B j (wq (e + 5 * x))).below.drew, (Sole.setCell wr B j (wq (e + 5 * x))).size, (Sole.setCell wr B j (wq (e + 5 * x))).other⟩⟩
        case measure => simp [intOf]; omega
    · obtain rfl : i = ds.length := by omega
      have HB := Lib.hid hblk
      have HL := Lib.hid so
      have HP := Lib.hid hp
      clear hblk so hp
      go_wp2_with (fail)
      exact HQ.out _ _ _ _ _ _ _ _ _ _ _ _ _ _ _ _ _ _ _ _ _ _ _ _ _ _ _ _ _ _ _ _ _ _ _ _ out _ HP HB HL
end Go.Proofs.YtmoffodmbbkolaaDoor

/- The fifth reference's Tag: the loops that add and multiply digits. Conditions: digits of which none is too great. -/
namespace Go.Proofs.YtmoffodmbbkolaaDoor
open Go.RowKit

/-- Digits, and others added to the first i of them. -/
def AdlP (ns hs out : List Nat) (i : Nat) : Prop := out.length = 11 ∧ dv out = dv ns + dv (hs.take i) ∧ ∀ q, q < 11 → out.getD q 0 ≤ 8191 + (if q < i then 8191 else 0)
theorem adl_step {ns hs out : List Nat} {i x : Nat} (h : AdlP ns hs out i) (hi : i < 10) (hl : hs.length = 10) (hx : x = hs.getD i 0) (hxl : x ≤ 8191) : AdlP ns hs (out.set i (out.getD i 0 + x)) (i + 1) := by
  obtain ⟨h1, h2, h3⟩ := h
  refine ⟨by rw [List.length_set]; exact h1, ?_, fun q hq => ?_⟩
  · rw [dv_set _ _ _ (by omega), dv_take_succ _ (by omega), ← hx, h2, Nat.mul_comm x]
    omega
  · by_cases e : i = q
    · subst e
      rw [getD_set_self (by omega)]
      have := h3 i (by omega)
      rw [if_neg (by omega)] at this
      rw [if_pos (by omega)]
      omega
    · rw [getD_set_ne e]
      have := h3 q hq
      split at this <;> split <;> omega
def AdlRel (w : World) (B : Nat) (ns hs : List Nat) (v : Value) (W : World) : Prop := ∃ (i : Nat) (out : List Nat), v = .int .i64 (i : Int) ∧ i ≤ 10 ∧ AdlP ns hs out i ∧ Blk W B 39 (out.map wq) ∧ Sole w W B
noncomputable def body_adl : Code := (((Tryd.f24.body.map loopsOf).getD [])[2]?).getD .skip
set_option maxRecDepth 100000 in
set_option maxHeartbeats 2000000 in
theorem adl_loop (c0 c1 c2 c3 c4 c5 c6 c7 c8 c10 c11 c14 c15 c16 c17 c18 c19 c20 c21 c22 c23 c24 c25 c26 c27 c28 c29 c30 c31 c32 c33 c34 c35 c36 c37 c38 c39 c40 c41 c42 c43 c44 c45 c46 c47 c48 c49 c50 c51 c52 c53 c54 c55 c56 c57 c58 c59 c60 c61 c62 c63 c64 c65 c66 c67 c68 c69 c70 c71 c72 c73 c74 c75 c76 c77 c78 c79 c80 c81 c82 c83 c84 c85 c86 c87 c88 c89 c90 c91 c92 c93 c94 c95 c96 c97 c98 c99 c100 c101 c102 c103 c104 c105 c106 c107 c108 c109 c110 c111 c112 c113 c114 c115 c116 c117 c118 c119 c120 c121 c122 c123 c124 c125 c126 c127 c128 c129 c130 c131 c132 c133 c134 c135 c136 c137 c138 c139 c140 c141 c142 c143 c144 c145 c146 c147 c148 c149 c150 c151 c152 c153 c154 c155 c156 c157 c158 c159 c160 c161 c162 c163 c164 c165 c166 c167 c168 c169 c170 c171 c172 c173 c174 c175 c176 c177 c178 c179 c180 c181 c182 c183 c184 c185 c186 c187 c188 c189 c190 : Value) (H ch B : Nat) (ns hs : List Nat) (w : World) (hl : Hid (hs.length = 10)) (hm : Hid (∀ x ∈ hs, x < 8192)) (hp : Hid (AdlP ns hs ns 0)) (hne : H ≠ B) (hh : Hid (∀ i, i < 10 → w.cell? ⟨H, i, none⟩ = some (.int .u64 ((hs.getD i 0 : Nat) : Int)))) (h0 : Hid (Blk w B 39 (ns.map wq))) {Q : Exit → Act → World → Prop}
    (HQ : Hid (∀ (u13 u73 u74 u75 u76 u77 u78 u79 u80 u81 u82 u83 u84 u85 u86 u87 u88 : Value) (out : List Nat) (wx : World), Hid (AdlP ns hs out 10) → Hid (Blk wx B 39 (out.map wq)) → Hid (Sole w wx B) → Q (.exit 4) ⟨List.toArray (c0 :: c1 :: c2 :: c3 :: c4 :: c5 :: c6 :: c7 :: c8 :: (.slice (some ⟨H, 0, none⟩) 10 ch) :: c10 :: c11 :: (.slice (some ⟨B, 0, none⟩) 11 11) :: u13 :: c14 :: c15 :: c16 :: c17 :: c18 :: c19 :: c20 :: c21 :: c22 :: c23 :: c24 :: c25 :: c26 :: c27 :: c28 :: c29 :: c30 :: c31 :: c32 :: c33 :: c34 :: c35 :: c36 :: c37 :: c38 :: c39 :: c40 :: c41 :: c42 :: c43 :: c44 :: c45 :: c46 :: c47 :: c48 :: c49 :: c50 :: c51 :: c52 :: c53 :: c54 :: c55 :: c56 :: c57 :: c58 :: c59 :: c60 :: c61 :: c62 :: c63 :: c64 :: c65 :: c66 :: c67 :: c68 :: c69 :: c70 :: c71 :: c72 :: u73 :: u74 :: u75 :: u76 :: u77 :: u78 :: u79 :: u80 :: u81 :: u82 :: u83 :: u84 :: u85 :: u86 :: u87 :: u88 :: c89 :: c90 :: c91 :: c92 :: c93 :: c94 :: c95 :: c96 :: c97 :: c98 :: c99 :: c100 :: c101 :: c102 :: c103 :: c104 :: c105 :: c106 :: c107 :: c108 :: c109 :: c110 :: c111 :: c112 :: c113 :: c114 :: c115 :: c116 :: c117 :: c118 :: c119 :: c120 :: c121 :: c122 :: c123 :: c124 :: c125 :: c126 :: c127 :: c128 :: c129 :: c130 :: c131 :: c132 :: c133 :: c134 :: c135 :: c136 :: c137 :: c138 :: c139 :: c140 :: c141 :: c142 :: c143 :: c144 :: c145 :: c146 :: c147 :: c148 :: c149 :: c150 :: c151 :: c152 :: c153 :: c154 :: c155 :: c156 :: c157 :: c158 :: c159 :: c160 :: c161 :: c162 :: c163 :: c164 :: c165 :: c166 :: c167 :: c168 :: c169 :: c170 :: c171 :: c172 :: c173 :: c174 :: c175 :: c176 :: c177 :: c178 :: c179 :: c180 :: c181 :: c182 :: c183 :: c184 :: c185 :: c186 :: c187 :: c188 :: c189 :: c190 :: []), []⟩ wx)) :
    (Code.loop body_adl).wp Tryd.prog Q ⟨List.toArray (c0 :: c1 :: c2 :: c3 :: c4 :: c5 :: c6 :: c7 :: c8 :: (.slice (some ⟨H, 0, none⟩) 10 ch) :: c10 :: c11 :: (.slice (some ⟨B, 0, none⟩) 11 11) :: (.int .i64 0) :: c14 :: c15 :: c16 :: c17 :: c18 :: c19 :: c20 :: c21 :: c22 :: c23 :: c24 :: c25 :: c26 :: c27 :: c28 :: c29 :: c30 :: c31 :: c32 :: c33 :: c34 :: c35 :: c36 :: c37 :: c38 :: c39 :: c40 :: c41 :: c42 :: c43 :: c44 :: c45 :: c46 :: c47 :: c48 :: c49 :: c50 :: c51 :: c52 :: c53 :: c54 :: c55 :: c56 :: c57 :: c58 :: c59 :: c60 :: c61 :: c62 :: c63 :: c64 :: c65 :: c66 :: c67 :: c68 :: c69 :: c70 :: c71 :: c72 :: c73 :: c74 :: c75 :: c76 :: c77 :: c78 :: c79 :: c80 :: c81 :: c82 :: c83 :: c84 :: c85 :: c86 :: c87 :: c88 :: c89 :: c90 :: c91 :: c92 :: c93 :: c94 :: c95 :: c96 :: c97 :: c98 :: c99 :: c100 :: c101 :: c102 :: c103 :: c104 :: c105 :: c106 :: c107 :: c108 :: c109 :: c110 :: c111 :: c112 :: c113 :: c114 :: c115 :: c116 :: c117 :: c118 :: c119 :: c120 :: c121 :: c122 :: c123 :: c124 :: c125 :: c126 :: c127 :: c128 :: c129 :: c130 :: c131 :: c132 :: c133 :: c134 :: c135 :: c136 :: c137 :: c138 :: c139 :: c140 :: c141 :: c142 :: c143 :: c144 :: c145 :: c146 :: c147 :: c148 :: c149 :: c150 :: c151 :: c152 :: c153 :: c154 :: c155 :: c156 :: c157 :: c158 :: c159 :: c160 :: c161 :: c162 :: c163 :: c164 :: c165 :: c166 :: c167 :: c168 :: c169 :: c170 :: c171 :: c172 :: c173 :: c174 :: c175 :: c176 :: c177 :: c178 :: c179 :: c180 :: c181 :: c182 :: c183 :: c184 :: c185 :: c186 :: c187 :: c188 :: c189 :: c190 :: []), []⟩ w := by
  unfold body_adl
  conv => arg 2; arg 1; whnf
  go_loopw [13] (fun v wx => AdlRel w B ns hs v wx) (fun v _ => 10 - (intOf v).toNat)
  case atStart => exact ⟨0, ns, rfl, by omega, hp.out, h0.out, Sole.refl _ _⟩
  case round =>
    obtain ⟨i, out, rfl, hi, hpp, hblk, so⟩ := hrel
    have HP := Lib.hid hpp
    by_cases hlt : i < 10
    · have hI : (i : Int) < 10 := by omega
      have hI11 : (i : Int) < 11 := by omega
      obtain ⟨x, hx⟩ : ∃ x, x = hs.getD i 0 := ⟨_, rfl⟩
      have xl : x ≤ 8191 := by
        have h : x < 8192 := by
          rw [hx, List.getD, List.getElem?_eq_getElem (by rw [hl.out]; exact hlt)]
          exact hm.out _ (List.getElem_mem _)
        omega
      have cx := (so.cell (p := ⟨H, i, none⟩) hne).trans (hh.out i hlt)
      rw [← hx] at cx
      obtain ⟨e, he⟩ : ∃ e, e = out.getD i 0 := ⟨_, rfl⟩
      have el : e ≤ 16382 := by
        have := hpp.2.2 i (by omega)
        rw [← he] at this
        split at this <;> omega
      have ce := rq_cell hblk (i := i) (by rw [hpp.1]; omega)
      rw [← he] at ce
      have f0 : wr.frozen? ⟨B, i, none⟩ = false := hblk.free _
      have HN := Lib.hid (adl_step hpp hlt hl.out hx xl)
      rw [← he] at HN
      have a1 : IntKind.u64.wrap ((e : Int) + (x : Int)) = (e : Int) + (x : Int) := IntWalk.u64_in _ (by omega)
      have HB := Lib.hid hblk
      have HL := Lib.hid so
      clear hx he hpp hblk so hi xl el
      go_wp2_with (fail)
      go_still_tail 12, (by kernel_rfl)
      change wpList _ _ _ _ _ wr.drew
      go_wp2_with (fail)
      go_roundw
      case rel =>
        have h := HB.out.set i (wq (e + x))
        rw [← List.map_set] at h
        have e7 : Value.int .u64 ((e : Int) + (x : Int)) = wq (e + x) := congrArg (Value.int .u64) (by omega)
        rw [e7]
        exact ⟨i + 1, _, by go_num, by omega, HN.out, h.drew, HL.out.trans ⟨(Sole.setCell wr B i (wq (e + x))).below.drew, (Sole.setCell wr B i (wq (e + x))).size, (Sole.setCell wr B i (wq (e + x))).other⟩⟩
      case measure => simp [intOf]; omega
    · obtain rfl : i = 10 := by omega
      have HB := Lib.hid hblk
      have HL := Lib.hid so
      clear hblk so hpp
      go_wp2_with (fail)
      exact HQ.out _ _ _ _ _ _ _ _ _ _ _ _ _ _ _ _ _ out _ HP HB HL
/-- The greatest product of two digits. -/
def muC : Nat := 16382 * 8191
/-- A row of products: i rounds are done, and k of the next one. -/
def MuiP (ns fs out : List Nat) (i k : Nat) : Prop := out.length = 22 ∧ dv out = dv (ns.take i) * dv fs + ns.getD i 0 * 8192 ^ i * dv (fs.take k) ∧ ∀ q, q < 22 → out.getD q 0 ≤ i * muC + (if i ≤ q ∧ q < i + k then muC else 0)
set_option maxRecDepth 100000 in
theorem mui_step {ns fs out : List Nat} {i k x y : Nat} (h : MuiP ns fs out i k) (hi : i < 11) (hk : k < 11) (hf : fs.length = 11) (hx : x = ns.getD i 0) (hy : y = fs.getD k 0) (hxl : x ≤ 16382) (hyl : y ≤ 8191) : MuiP ns fs (out.set (i + k) (out.getD (i + k) 0 + x * y)) i (k + 1) := by
  obtain ⟨h1, h2, h3⟩ := h
  have hxy : x * y ≤ muC := Nat.mul_le_mul hxl hyl
  obtain ⟨I, hI⟩ : ∃ I, I = i * muC := ⟨_, rfl⟩
  rw [← hI] at h3
  refine ⟨by rw [List.length_set]; exact h1, ?_, fun q hq => ?_⟩
  · rw [dv_set _ _ _ (by omega), dv_take_succ _ (by omega), ← hy, h2, Nat.mul_add, ← hx, Nat.pow_add]
    have e : x * 8192 ^ i * (8192 ^ k * y) = x * y * (8192 ^ i * 8192 ^ k) := by
      rw [Nat.mul_comm (8192 ^ k) y, Nat.mul_assoc x, ← Nat.mul_assoc (8192 ^ i), Nat.mul_comm (8192 ^ i) y, Nat.mul_assoc y, ← Nat.mul_assoc x]
    rw [e]
    omega
  · rw [← hI]
    by_cases e : i + k = q
    · subst e
      rw [getD_set_self (by omega)]
      have := h3 (i + k) (by omega)
      rw [if_neg (by omega)] at this
      rw [if_pos (by omega)]
      omega
    · rw [getD_set_ne e]
      have := h3 q hq
      split at this <;> split <;> omega
set_option maxRecDepth 100000 in
theorem muo_step {ns fs out : List Nat} {i : Nat} (h : MuiP ns fs out i 11) (hi : i < 11) (hn : ns.length = 11) (hf : fs.length = 11) : MuiP ns fs out (i + 1) 0 := by
  obtain ⟨h1, h2, h3⟩ := h
  refine ⟨h1, ?_, fun q hq => ?_⟩
  · have e : fs.take 11 = fs := List.take_of_length_le (by omega)
    rw [e] at h2
    rw [h2, dv_take_succ ns (i := i) (by omega), Nat.add_mul, Nat.mul_comm (8192 ^ i)]
    simp [dv]
  · have := h3 q hq
    rw [Nat.add_mul, Nat.one_mul]
    rw [if_neg (show ¬ (i + 1 ≤ q ∧ q < i + 1 + 0) by omega)]
    split at this <;> omega
def MuiRel (w : World) (B i : Nat) (ns fs : List Nat) (v : Value) (W : World) : Prop := ∃ (k : Nat) (out : List Nat), v = .int .i64 (k : Int) ∧ k ≤ 11 ∧ MuiP ns fs out i k ∧ Blk W B 39 (out.map wq) ∧ Sole w W B
noncomputable def body_mui : Code := (((Tryd.f24.body.map loopsOf).getD [])[4]?).getD .skip
set_option maxRecDepth 100000 in
set_option maxHeartbeats 2000000 in
theorem mui_loop (c0 c1 c2 c3 c4 c5 c6 c7 c9 c10 c11 c13 c17 c18 c19 c20 c21 c22 c23 c24 c25 c26 c27 c28 c29 c30 c31 c32 c33 c34 c35 c36 c37 c38 c39 c40 c41 c42 c43 c44 c45 c46 c47 c48 c49 c50 c51 c52 c53 c54 c55 c56 c57 c58 c59 c60 c61 c62 c63 c64 c65 c66 c67 c68 c69 c70 c71 c72 c73 c74 c75 c76 c77 c78 c79 c80 c81 c82 c83 c84 c85 c86 c87 c88 c89 c90 c91 c92 c93 c94 c95 c96 c97 c98 c99 c100 c101 c102 c103 c104 c105 c106 c107 c108 c109 c110 c111 c112 c113 c114 c115 c116 c117 c118 c119 c120 c121 c122 c123 c124 c125 c126 c127 c128 c129 c130 c131 c132 c133 c134 c135 c136 c137 c138 c139 c140 c141 c142 c143 c144 c145 c146 c147 c148 c149 c150 c151 c152 c153 c154 c155 c156 c157 c158 c159 c160 c161 c162 c163 c164 c165 c166 c167 c168 c169 c170 c171 c172 c173 c174 c175 c176 c177 c178 c179 c180 c181 c182 c183 c184 c185 c186 c187 c188 c189 c190 : Value) (F N B i : Nat) (ns fs out0 : List Nat) (w : World) (hi : i < 11) (hfl : Hid (fs.length = 11)) (hnm : Hid (∀ q, q < 11 → ns.getD q 0 ≤ 16382)) (hfm : Hid (∀ x ∈ fs, x < 8192)) (hp : Hid (MuiP ns fs out0 i 0)) (hne1 : F ≠ B) (hne2 : N ≠ B)
    (hfc : Hid (∀ i, i < 11 → w.cell? ⟨F, i, none⟩ = some (.int .u64 ((fs.getD i 0 : Nat) : Int)))) (hnc : Hid (∀ i, i < 11 → w.cell? ⟨N, i, none⟩ = some (.int .u64 ((ns.getD i 0 : Nat) : Int)))) (h0 : Hid (Blk w B 39 (out0.map wq))) {Q : Exit → Act → World → Prop}
    (HQ : Hid (∀ (u16 u94 u95 u96 u97 u98 u99 u100 u101 u102 u103 u104 u105 u106 u107 u108 u109 u110 u111 u112 u113 u114 u115 u116 u117 u118 : Value) (out : List Nat) (wx : World), Hid (MuiP ns fs out i 11) → Hid (Blk wx B 39 (out.map wq)) → Hid (Sole w wx B) → Q (.exit 8) ⟨List.toArray (c0 :: c1 :: c2 :: c3 :: c4 :: c5 :: c6 :: c7 :: (.slice (some ⟨F, 0, none⟩) 11 11) :: c9 :: c10 :: c11 :: (.slice (some ⟨N, 0, none⟩) 11 11) :: c13 :: (.slice (some ⟨B, 0, none⟩) 22 22) :: (.int .i64 (i : Int)) :: u16 :: c17 :: c18 :: c19 :: c20 :: c21 :: c22 :: c23 :: c24 :: c25 :: c26 :: c27 :: c28 :: c29 :: c30 :: c31 :: c32 :: c33 :: c34 :: c35 :: c36 :: c37 :: c38 :: c39 :: c40 :: c41 :: c42 :: c43 :: c44 :: c45 :: c46 :: c47 :: c48 :: c49 :: c50 :: c51 :: c52 :: c53 :: c54 :: c55 :: c56 :: c57 :: c58 :: c59 :: c60 :: c61 :: c62 :: c63 :: c64 :: c65 :: c66 :: c67 :: c68 :: c69 :: c70 :: c71 :: c72 :: c73 :: c74 :: c75 :: c76 :: c77 :: c78 :: c79 :: c80 :: c81 :: c82 :: c83 :: c84 :: c85 :: c86 :: c87 :: c88 :: c89 :: c90 :: c91 :: c92 :: c93 :: u94 :: u95 :: u96 :: u97 :: u98 :: u99 :: u100 :: u101 :: u102 :: u103 :: u104 :: u105 :: u106 :: u107 :: u108 :: u109 :: u110 :: u111 :: u112 :: u113 :: u114 :: u115 :: u116 :: u117 :: u118 :: c119 :: c120 :: c121 :: c122 :: c123 :: c124 :: c125 :: c126 :: c127 :: c128 :: c129 :: c130 :: c131 :: c132 :: c133 :: c134 :: c135 :: c136 :: c137 :: c138 :: c139 :: c140 :: c141 :: c142 :: c143 :: c144 :: c145 :: c146 :: c147 :: c148 :: c149 :: c150 :: c151 :: c152 :: c153 :: c154 :: c155 :: c156 :: c157 :: c158 :: c159 :: c160 :: c161 :: c162 :: c163 :: c164 :: c165 :: c166 :: c167 :: c168 :: c169 :: c170 :: c171 :: c172 :: c173 :: c174 :: c175 :: c176 :: c177 :: c178 :: c179 :: c180 :: c181 :: c182 :: c183 :: c184 :: c185 :: c186 :: c187 :: c188 :: c189 :: c190 :: []), []⟩ wx)) :
    (Code.loop body_mui).wp Tryd.prog Q ⟨List.toArray (c0 :: c1 :: c2 :: c3 :: c4 :: c5 :: c6 :: c7 :: (.slice (some ⟨F, 0, none⟩) 11 11) :: c9 :: c10 :: c11 :: (.slice (some ⟨N, 0, none⟩) 11 11) :: c13 :: (.slice (some ⟨B, 0, none⟩) 22 22) :: (.int .i64 (i : Int)) :: (.int .i64 0) :: c17 :: c18 :: c19 :: c20 :: c21 :: c22 :: c23 :: c24 :: c25 :: c26 :: c27 :: c28 :: c29 :: c30 :: c31 :: c32 :: c33 :: c34 :: c35 :: c36 :: c37 :: c38 :: c39 :: c40 :: c41 :: c42 :: c43 :: c44 :: c45 :: c46 :: c47 :: c48 :: c49 :: c50 :: c51 :: c52 :: c53 :: c54 :: c55 :: c56 :: c57 :: c58 :: c59 :: c60 :: c61 :: c62 :: c63 :: c64 :: c65 :: c66 :: c67 :: c68 :: c69 :: c70 :: c71 :: c72 :: c73 :: c74 :: c75 :: c76 :: c77 :: c78 :: c79 :: c80 :: c81 :: c82 :: c83 :: c84 :: c85 :: c86 :: c87 :: c88 :: c89 :: c90 :: c91 :: c92 :: c93 :: c94 :: c95 :: c96 :: c97 :: c98 :: c99 :: c100 :: c101 :: c102 :: c103 :: c104 :: c105 :: c106 :: c107 :: c108 :: c109 :: c110 :: c111 :: c112 :: c113 :: c114 :: c115 :: c116 :: c117 :: c118 :: c119 :: c120 :: c121 :: c122 :: c123 :: c124 :: c125 :: c126 :: c127 :: c128 :: c129 :: c130 :: c131 :: c132 :: c133 :: c134 :: c135 :: c136 :: c137 :: c138 :: c139 :: c140 :: c141 :: c142 :: c143 :: c144 :: c145 :: c146 :: c147 :: c148 :: c149 :: c150 :: c151 :: c152 :: c153 :: c154 :: c155 :: c156 :: c157 :: c158 :: c159 :: c160 :: c161 :: c162 :: c163 :: c164 :: c165 :: c166 :: c167 :: c168 :: c169 :: c170 :: c171 :: c172 :: c173 :: c174 :: c175 :: c176 :: c177 :: c178 :: c179 :: c180 :: c181 :: c182 :: c183 :: c184 :: c185 :: c186 :: c187 :: c188 :: c189 :: c190 :: []), []⟩ w := by
  have iI : (i : Int) < 11 := by omega
  unfold body_mui
  conv => arg 2; arg 1; whnf
  go_loopw [16] (fun v wx => MuiRel w B i ns fs v wx) (fun v _ => 11 - (intOf v).toNat)
  case atStart => exact ⟨0, out0, rfl, by omega, hp.out, h0.out, Sole.refl _ _⟩
  case round =>
    obtain ⟨k, out, rfl, hk, hpp, hblk, so⟩ := hrel
    have HP := Lib.hid hpp
    by_cases hlt : k < 11
    · have kI : (k : Int) < 11 := by omega
      obtain ⟨x, hx⟩ : ∃ x, x = ns.getD i 0 := ⟨_, rfl⟩
      obtain ⟨y, hy⟩ : ∃ y, y = fs.getD k 0 := ⟨_, rfl⟩
      have xl : x ≤ 16382 := by rw [hx]; exact hnm.out i hi
      have yl : y ≤ 8191 := by
        have h : y < 8192 := by
          rw [hy, List.getD, List.getElem?_eq_getElem (by rw [hfl.out]; exact hlt)]
          exact hfm.out _ (List.getElem_mem _)
        omega
      have cx := (so.cell (p := ⟨N, i, none⟩) hne2).trans (hnc.out i hi)
      have cy := (so.cell (p := ⟨F, k, none⟩) hne1).trans (hfc.out k hlt)
      rw [← hx] at cx
      rw [← hy] at cy
      obtain ⟨j, hj⟩ : ∃ j, j = i + k := ⟨_, rfl⟩
      have j22 : j < 22 := by omega
      obtain ⟨e, he⟩ : ∃ e, e = out.getD j 0 := ⟨_, rfl⟩
      have el : e ≤ 1610219544 := by
        have h4 := hpp.2.2 j j22
        rw [← he] at h4
        have h5 : i * muC ≤ 11 * muC := Nat.mul_le_mul_right _ (by omega)
        have h6 : 11 * muC + muC = 1610219544 := by decide
        split at h4 <;> omega
      have ce := rq_cell hblk (i := j) (by rw [hpp.1]; exact j22)
      rw [← he] at ce
      have f0 : wr.frozen? ⟨B, j, none⟩ = false := hblk.free _
      have HN := Lib.hid (mui_step hpp hi hlt hfl.out hx hy xl yl)
      rw [← hj, ← he] at HN
      obtain ⟨z, hz⟩ : ∃ z, z = x * y := ⟨_, rfl⟩
      have zl : z ≤ 134184962 := by
        have h6 : (16382 * 8191 : Nat) = 134184962 := by decide
        rw [hz, ← h6]
        exact Nat.mul_le_mul xl yl
      rw [← hz] at HN
      have jI : (j : Int) < 22 := by omega
      have a0 : (i : Int) + (k : Int) = (j : Int) := by omega
      have a00 : IntKind.i64.wrap (j : Int) = (j : Int) := IntWalk.i64_in _ (by clear a0; omega)
      have a1 : (x : Int) * (y : Int) = (z : Int) := by rw [hz]; simp
      have a2 : IntKind.u64.wrap (z : Int) = (z : Int) := IntWalk.u64_in _ (by clear a0 a00 a1; omega)
      have a3 : IntKind.u64.wrap ((e : Int) + (z : Int)) = (e : Int) + (z : Int) := IntWalk.u64_in _ (by clear a0 a00 a1 a2; omega)
      have HB := Lib.hid hblk
      have HL := Lib.hid so
      clear hx hy hz he hj hpp hblk so hk xl yl el j22
      go_wp2_with (fail)
      go_still_tail 21, (by kernel_rfl)
      change wpList _ _ _ _ _ wr.drew
      go_wp2_with (fail)
      clear a0 a00 a1 a2 a3
      go_roundw
      case rel =>
        have h := HB.out.set j (wq (e + z))
        rw [← List.map_set] at h
        have e7 : Value.int .u64 ((e : Int) + (z : Int)) = wq (e + z) := congrArg (Value.int .u64) (by omega)
        rw [e7]
        exact ⟨k + 1, _, by go_num, by omega, HN.out, h.drew, HL.out.trans ⟨(Sole.setCell wr B j (wq (e + z))).below.drew, (Sole.setCell wr B j (wq (e + z))).size, (Sole.setCell wr B j (wq (e + z))).other⟩⟩
      case measure => simp [intOf]; omega
    · obtain rfl : k = 11 := by omega
      have HB := Lib.hid hblk
      have HL := Lib.hid so
      clear hblk so hpp
      go_wp2_with (fail)
      exact HQ.out _ _ _ _ _ _ _ _ _ _ _ _ _ _ _ _ _ _ _ _ _ _ _ _ _ _ out _ HP HB HL
def MuoRel (w : World) (B : Nat) (ns fs : List Nat) (v : Value) (W : World) : Prop := ∃ (i : Nat) (out : List Nat), v = .int .i64 (i : Int) ∧ i ≤ 11 ∧ MuiP ns fs out i 0 ∧ Blk W B 39 (out.map wq) ∧ Sole w W B
noncomputable def body_muo : Code := (((Tryd.f24.body.map loopsOf).getD [])[3]?).getD .skip
set_option maxRecDepth 100000 in
set_option maxHeartbeats 2000000 in
theorem muo_loop (c0 c1 c2 c3 c4 c5 c6 c7 c9 c10 c11 c13 c16 c17 c18 c19 c20 c21 c22 c23 c24 c25 c26 c27 c28 c29 c30 c31 c32 c33 c34 c35 c36 c37 c38 c39 c40 c41 c42 c43 c44 c45 c46 c47 c48 c49 c50 c51 c52 c53 c54 c55 c56 c57 c58 c59 c60 c61 c62 c63 c64 c65 c66 c67 c68 c69 c70 c71 c72 c73 c74 c75 c76 c77 c78 c79 c80 c81 c82 c83 c84 c85 c86 c87 c88 c89 c90 c91 c92 c93 c94 c95 c96 c97 c98 c99 c100 c101 c102 c103 c104 c105 c106 c107 c108 c109 c110 c111 c112 c113 c114 c115 c116 c117 c118 c119 c120 c121 c122 c123 c124 c125 c126 c127 c128 c129 c130 c131 c132 c133 c134 c135 c136 c137 c138 c139 c140 c141 c142 c143 c144 c145 c146 c147 c148 c149 c150 c151 c152 c153 c154 c155 c156 c157 c158 c159 c160 c161 c162 c163 c164 c165 c166 c167 c168 c169 c170 c171 c172 c173 c174 c175 c176 c177 c178 c179 c180 c181 c182 c183 c184 c185 c186 c187 c188 c189 c190 : Value) (F N B : Nat) (ns fs : List Nat) (w : World) (hfl : Hid (fs.length = 11)) (hnl : Hid (ns.length = 11)) (hnm : Hid (∀ q, q < 11 → ns.getD q 0 ≤ 16382)) (hfm : Hid (∀ x ∈ fs, x < 8192)) (hne1 : F ≠ B) (hne2 : N ≠ B)
    (hfc : Hid (∀ i, i < 11 → w.cell? ⟨F, i, none⟩ = some (.int .u64 ((fs.getD i 0 : Nat) : Int)))) (hnc : Hid (∀ i, i < 11 → w.cell? ⟨N, i, none⟩ = some (.int .u64 ((ns.getD i 0 : Nat) : Int)))) (h0 : Hid (Blk w B 39 ((List.replicate 22 0).map wq))) {Q : Exit → Act → World → Prop}
    (HQ : Hid (∀ (u15 u16 u90 u91 u92 u93 u94 u95 u96 u97 u98 u99 u100 u101 u102 u103 u104 u105 u106 u107 u108 u109 u110 u111 u112 u113 u114 u115 u116 u117 u118 : Value) (out : List Nat) (wx : World), Hid (MuiP ns fs out 11 0) → Hid (Blk wx B 39 (out.map wq)) → Hid (Sole w wx B) → Q (.exit 6) ⟨List.toArray (c0 :: c1 :: c2 :: c3 :: c4 :: c5 :: c6 :: c7 :: (.slice (some ⟨F, 0, none⟩) 11 11) :: c9 :: c10 :: c11 :: (.slice (some ⟨N, 0, none⟩) 11 11) :: c13 :: (.slice (some ⟨B, 0, none⟩) 22 22) :: u15 :: u16 :: c17 :: c18 :: c19 :: c20 :: c21 :: c22 :: c23 :: c24 :: c25 :: c26 :: c27 :: c28 :: c29 :: c30 :: c31 :: c32 :: c33 :: c34 :: c35 :: c36 :: c37 :: c38 :: c39 :: c40 :: c41 :: c42 :: c43 :: c44 :: c45 :: c46 :: c47 :: c48 :: c49 :: c50 :: c51 :: c52 :: c53 :: c54 :: c55 :: c56 :: c57 :: c58 :: c59 :: c60 :: c61 :: c62 :: c63 :: c64 :: c65 :: c66 :: c67 :: c68 :: c69 :: c70 :: c71 :: c72 :: c73 :: c74 :: c75 :: c76 :: c77 :: c78 :: c79 :: c80 :: c81 :: c82 :: c83 :: c84 :: c85 :: c86 :: c87 :: c88 :: c89 :: u90 :: u91 :: u92 :: u93 :: u94 :: u95 :: u96 :: u97 :: u98 :: u99 :: u100 :: u101 :: u102 :: u103 :: u104 :: u105 :: u106 :: u107 :: u108 :: u109 :: u110 :: u111 :: u112 :: u113 :: u114 :: u115 :: u116 :: u117 :: u118 :: c119 :: c120 :: c121 :: c122 :: c123 :: c124 :: c125 :: c126 :: c127 :: c128 :: c129 :: c130 :: c131 :: c132 :: c133 :: c134 :: c135 :: c136 :: c137 :: c138 :: c139 :: c140 :: c141 :: c142 :: c143 :: c144 :: c145 :: c146 :: c147 :: c148 :: c149 :: c150 :: c151 :: c152 :: c153 :: c154 :: c155 :: c156 :: c157 :: c158 :: c159 :: c160 :: c161 :: c162 :: c163 :: c164 :: c165 :: c166 :: c167 :: c168 :: c169 :: c170 :: c171 :: c172 :: c173 :: c174 :: c175 :: c176 :: c177 :: c178 :: c179 :: c180 :: c181 :: c182 :: c183 :: c184 :: c185 :: c186 :: c187 :: c188 :: c189 :: c190 :: []), []⟩ wx)) :
    (Code.loop body_muo).wp Tryd.prog Q ⟨List.toArray (c0 :: c1 :: c2 :: c3 :: c4 :: c5 :: c6 :: c7 :: (.slice (some ⟨F, 0, none⟩) 11 11) :: c9 :: c10 :: c11 :: (.slice (some ⟨N, 0, none⟩) 11 11) :: c13 :: (.slice (some ⟨B, 0, none⟩) 22 22) :: (.int .i64 0) :: c16 :: c17 :: c18 :: c19 :: c20 :: c21 :: c22 :: c23 :: c24 :: c25 :: c26 :: c27 :: c28 :: c29 :: c30 :: c31 :: c32 :: c33 :: c34 :: c35 :: c36 :: c37 :: c38 :: c39 :: c40 :: c41 :: c42 :: c43 :: c44 :: c45 :: c46 :: c47 :: c48 :: c49 :: c50 :: c51 :: c52 :: c53 :: c54 :: c55 :: c56 :: c57 :: c58 :: c59 :: c60 :: c61 :: c62 :: c63 :: c64 :: c65 :: c66 :: c67 :: c68 :: c69 :: c70 :: c71 :: c72 :: c73 :: c74 :: c75 :: c76 :: c77 :: c78 :: c79 :: c80 :: c81 :: c82 :: c83 :: c84 :: c85 :: c86 :: c87 :: c88 :: c89 :: c90 :: c91 :: c92 :: c93 :: c94 :: c95 :: c96 :: c97 :: c98 :: c99 :: c100 :: c101 :: c102 :: c103 :: c104 :: c105 :: c106 :: c107 :: c108 :: c109 :: c110 :: c111 :: c112 :: c113 :: c114 :: c115 :: c116 :: c117 :: c118 :: c119 :: c120 :: c121 :: c122 :: c123 :: c124 :: c125 :: c126 :: c127 :: c128 :: c129 :: c130 :: c131 :: c132 :: c133 :: c134 :: c135 :: c136 :: c137 :: c138 :: c139 :: c140 :: c141 :: c142 :: c143 :: c144 :: c145 :: c146 :: c147 :: c148 :: c149 :: c150 :: c151 :: c152 :: c153 :: c154 :: c155 :: c156 :: c157 :: c158 :: c159 :: c160 :: c161 :: c162 :: c163 :: c164 :: c165 :: c166 :: c167 :: c168 :: c169 :: c170 :: c171 :: c172 :: c173 :: c174 :: c175 :: c176 :: c177 :: c178 :: c179 :: c180 :: c181 :: c182 :: c183 :: c184 :: c185 :: c186 :: c187 :: c188 :: c189 :: c190 :: []), []⟩ w := by
  unfold body_muo
  conv => arg 2; arg 1; whnf
  go_loopw [15] (fun v wx => MuoRel w B ns fs v wx) (fun v _ => 11 - (intOf v).toNat)
  case atStart => exact ⟨0, List.replicate 22 0, rfl, by omega, ⟨by simp, by rw [dv_zeros]; simp [dv], fun q _ => by rw [List.getD, List.getElem?_replicate]; split <;> simp⟩, h0.out, Sole.refl _ _⟩
  case round =>
    obtain ⟨i, out, rfl, hi, hpp, hblk, so⟩ := hrel
    have HP := Lib.hid hpp
    have HB := Lib.hid hblk
    have HL := Lib.hid so
    clear hblk so hpp
    by_cases hlt : i < 11
    · have hI : (i : Int) < 11 := by omega
      have FC := Lib.hid (fun j (hj : j < 11) => (HL.out.cell (p := ⟨F, j, none⟩) hne1).trans (hfc.out j hj))
      have NC := Lib.hid (fun j (hj : j < 11) => (HL.out.cell (p := ⟨N, j, none⟩) hne2).trans (hnc.out j hj))
      go_wp2_with (fail)
      refine mui_loop _ _ _ _ _ _ _ _ _ _ _ _ _ _ _ _ _ _ _ _ _ _ _ _ _ _ _ _ _ _ _ _ _ _ _ _ _ _ _ _ _ _ _ _ _ _ _ _ _ _ _ _ _ _ _ _ _ _ _ _ _ _ _ _ _ _ _ _ _ _ _ _ _ _ _ _ _ _ _ _ _ _ _ _ _ _ _ _ _ _ _ _ _ _ _ _ _ _ _ _ _ _ _ _ _ _ _ _ _ _ _ _ _ _ _ _ _ _ _ _ _ _ _ _ _ _ _ _ _ _ _ _ _ _ _ _ _ _ _ _ _ _ _ _ _ _ _ _ _ _ _ _ _ _ _ _ _ _ _ _ _ _ _ _ _ _ _ _ _ _ _ _ _ _ _ _ _ _ _ _ _ _ _ _ _ _ F N B i ns fs out wr hlt hfl hnm hfm HP hne1 hne2 FC NC HB (Lib.hid ?_)
      intro u16 u94 u95 u96 u97 u98 u99 u100 u101 u102 u103 u104 u105 u106 u107 u108 u109 u110 u111 u112 u113 u114 u115 u116 u117 u118 out2 w2 hp2 hb2 hs2
      go_wp2_with (fail)
      go_roundw
      case rel => exact ⟨i + 1, out2, by go_num, by omega, muo_step hp2.out hlt hnl.out hfl.out, hb2.out, HL.out.trans hs2.out⟩
      case measure => simp [intOf]; omega
    · obtain rfl : i = 11 := by omega
      go_wp2_with (fail)
      exact HQ.out _ _ _ _ _ _ _ _ _ _ _ _ _ _ _ _ _ _ _ _ _ _ _ _ _ _ _ _ _ _ _ out _ HP HB HL
end Go.Proofs.YtmoffodmbbkolaaDoor
