/- The developers' Check. No condition of its own. -/
import Derived.Test.YtckgpocfcanokaaLkStr
import Derived.Test.YtckgpocfcanokaaLbChk
import Derived.BigQuiet
import Derived.Deep.Cut
namespace Go.Proofs.Ytckgpocfcanokaa
open Go.RowKit

theorem wordK (s : ByteArray) (b : Bool) (hb : wordB s.toList = b) (hm : s.size ≤ maxLen) (W : World) : Calls Try.prog 16 #[.string s] W fun e w' => e = .returned (.bool b) ∧ w' = W := by
  rw [← hb]
  exact isWord_any s W hm
noncomputable def body_lkc : Code := (((Try.f7.body.map loopsOf).getD [])[0]?).getD .skip
set_option maxRecDepth 100000 in
set_option maxHeartbeats 8000000 in
theorem lkc_loop (c0 c2 c3 c4 c5 c6 c7 c8 c9 c10 c11 c12 c13 c14 c15 c19 c20 c21 c22 c23 c24 c25 c26 c27 c28 c29 c30 c31 c32 c33 c34 c35 c36 c37 c38 c39 c40 c41 c42 c43 c44 c45 c46 c47 c48 c49 : Value) (A : Option Addr) (c X : Nat) (n : ByteArray) (ls : List Qu) (w : World) (hx : Hid (Blk w X 24 [.string n, .slice A ls.length c])) (hr : Hid (RsLb w (.slice A ls.length c) ls)) (hn : Hid (ls.length ≤ 8)) {Q : Exit → Act → World → Prop}
    (HQ : Hid (∀ (u2 u3 u4 u19 u20 u21 u22 u23 u24 u25 u26 u27 u28 u29 u30 u31 u32 u33 u34 u35 u36 u37 u38 u39 u40 u41 u42 u43 u44 u45 u46 u47 u48 u49 y : Value) (w' : World), Hid (LckS ls ls.length) → Hid (Below w.heap.size w w') → Q (.exit 0) ⟨List.toArray (c0 :: (.pointer (some ⟨X, 0, none⟩)) :: u2 :: u3 :: u4 :: c5 :: c6 :: c7 :: c8 :: c9 :: c10 :: c11 :: c12 :: c13 :: c14 :: c15 :: (.slice A ls.length c) :: (.int .i64 (ls.length : Int)) :: y :: u19 :: u20 :: u21 :: u22 :: u23 :: u24 :: u25 :: u26 :: u27 :: u28 :: u29 :: u30 :: u31 :: u32 :: u33 :: u34 :: u35 :: u36 :: u37 :: u38 :: u39 :: u40 :: u41 :: u42 :: u43 :: u44 :: u45 :: u46 :: u47 :: u48 :: u49 :: []), []⟩ w'))
    (HE : Hid (∀ (u3 u4 u19 u20 u21 u22 u23 u24 u25 u26 u27 u28 u29 u30 u31 u32 u33 u34 u35 u36 u37 u38 u39 u40 u41 u42 u43 u44 u45 u46 u47 u48 u49 y : Value) (w' : World), Hid (¬ MayS ⟨n, ls⟩) → Hid (Below w.heap.size w w') → Q .ret ⟨List.toArray (c0 :: (.pointer (some ⟨X, 0, none⟩)) :: (.int .i64 1) :: u3 :: u4 :: c5 :: c6 :: c7 :: c8 :: c9 :: c10 :: c11 :: c12 :: c13 :: c14 :: c15 :: (.slice A ls.length c) :: (.int .i64 (ls.length : Int)) :: y :: u19 :: u20 :: u21 :: u22 :: u23 :: u24 :: u25 :: u26 :: u27 :: u28 :: u29 :: u30 :: u31 :: u32 :: u33 :: u34 :: u35 :: u36 :: u37 :: u38 :: u39 :: u40 :: u41 :: u42 :: u43 :: u44 :: u45 :: u46 :: u47 :: u48 :: u49 :: []), []⟩ w')) :
    (Code.loop body_lkc).wp Try.prog Q ⟨List.toArray (c0 :: (.pointer (some ⟨X, 0, none⟩)) :: c2 :: c3 :: c4 :: c5 :: c6 :: c7 :: c8 :: c9 :: c10 :: c11 :: c12 :: c13 :: c14 :: c15 :: (.slice A ls.length c) :: (.int .i64 (ls.length : Int)) :: (.int .i64 0) :: c19 :: c20 :: c21 :: c22 :: c23 :: c24 :: c25 :: c26 :: c27 :: c28 :: c29 :: c30 :: c31 :: c32 :: c33 :: c34 :: c35 :: c36 :: c37 :: c38 :: c39 :: c40 :: c41 :: c42 :: c43 :: c44 :: c45 :: c46 :: c47 :: c48 :: c49 :: []), []⟩ w := by
  unfold body_lkc
  conv => arg 2; arg 1; whnf
  go_loopw [18] (fun y wx => ∃ (j : Nat), y = .int .i64 (j : Int) ∧ j ≤ ls.length ∧ LckS ls j ∧ Below w.heap.size w wx) (fun y _ => ls.length - (intOf y).toNat)
  case atStart => exact ⟨0, rfl, Nat.zero_le _, ⟨fun i p h => by omega, fun i p q h => by omega⟩, Below.refl _ _⟩
  case round =>
    obtain ⟨j, rfl, hj, hck, hwm⟩ := hrel
    have hl := hn.out
    have HWM := Lib.hid hwm
    have HXA : Hid (∀ V, Below w.heap.size w V → V.cell? ⟨X, 1, none⟩ = some (.slice A ls.length c)) := Lib.hid fun V hb => (hx.out.below hb hx.out.lt).cell 1
    have hrw : RsLb wr (.slice A ls.length c) ls := hr.out.below hwm
    have pI : (ls.length : Int) ≤ 8 := by omega
    by_cases hlt : j < ls.length
    · have jI : (j : Int) < ls.length := by omega
      have HLT := Lib.hid hlt
      obtain ⟨q, hq⟩ : ∃ q, ls[j]? = some q := ⟨_, List.getElem?_eq_getElem hlt⟩
      obtain ⟨g, o, rfl⟩ := hrw.addr hq
      obtain ⟨_, q0, q1⟩ := hrw.cells hq
      obtain ⟨k1, k2, _⟩ := hr.out.ok q (List.mem_of_getElem? hq)
      obtain ⟨s, g0, u⟩ := q
      simp only at q0 q1 k1 k2
      obtain ⟨b, hbn⟩ : ∃ b, wordB s.toList = b := ⟨_, rfl⟩
      obtain ⟨d, hdv⟩ : ∃ d, wordB u.toList = d := ⟨_, rfl⟩
      have HW1 := Lib.hid (wordK s b hbn k1)
      have HW2 := Lib.hid (wordK u d hdv k2)
      cases b with
      | false =>
        have HX : Hid (¬ MayS ⟨n, ls⟩) := Lib.hid (not_mayN hq (.inl hbn))
        clear hwm hlt hrw hl hj hck hq hbn hdv k1 k2 HW2
        go_upto_region 6 with (fail)
        obtain ⟨D, hD⟩ : ∃ D, D = wr.heap.size := ⟨_, rfl⟩
        obtain ⟨W1, hW1⟩ : ∃ W : World, W = wr.alloc (.cells #[.string s, .string u] 39) := ⟨_, rfl⟩
        have B1 : Hid (Below wr.heap.size wr W1) := Lib.hid (by rw [hW1]; exact (Below.refl _ _).alloc (Nat.le_refl _) _)
        have KD : Hid (Blk W1 D 39 [.string s, .string u]) := Lib.hid (by rw [hW1, hD]; exact Blk.made _ _ _)
        have HB1 : Hid (∀ m, Below w.heap.size w (W1.drewN m)) := Lib.hid fun m => below_drewN (HWM.out.trans (B1.out.mono HWM.out.size)) m
        rw [← hW1, ← hD]
        clear hW1 hD q0 q1
        have d0 : W1.cell? ⟨D, 0, none⟩ = some (.string s) := KD.out.cell 0
        have d1 : W1.cell? ⟨D, 1, none⟩ = some (.string u) := KD.out.cell 1
        have b1 : W1.cell? ⟨X, 1, none⟩ = some (.slice (some ⟨g, o, none⟩) ls.length c) := HXA.out _ (HB1.out 0)
        go_quiet (first | (go_at_call 16; with_reducible exact Calls.quiet_of_same (HW1.out _)))
        go_wp2_with (fail)
        exact HE.out _ _ _ _ _ _ _ _ _ _ _ _ _ _ _ _ _ _ _ _ _ _ _ _ _ _ _ _ _ _ _ _ _ _ _ HX (Lib.hid (HB1.out _))
      | true =>
        cases d with
        | false =>
          have HX : Hid (¬ MayS ⟨n, ls⟩) := Lib.hid (not_mayN hq (.inr hdv))
          clear hwm hlt hrw hl hj hck hq hbn hdv k1 k2
          go_upto_region 6 with (fail)
          obtain ⟨D, hD⟩ : ∃ D, D = wr.heap.size := ⟨_, rfl⟩
          obtain ⟨W1, hW1⟩ : ∃ W : World, W = wr.alloc (.cells #[.string s, .string u] 39) := ⟨_, rfl⟩
          have B1 : Hid (Below wr.heap.size wr W1) := Lib.hid (by rw [hW1]; exact (Below.refl _ _).alloc (Nat.le_refl _) _)
          have KD : Hid (Blk W1 D 39 [.string s, .string u]) := Lib.hid (by rw [hW1, hD]; exact Blk.made _ _ _)
          have HB1 : Hid (∀ m, Below w.heap.size w (W1.drewN m)) := Lib.hid fun m => below_drewN (HWM.out.trans (B1.out.mono HWM.out.size)) m
          rw [← hW1, ← hD]
          clear hW1 hD q0 q1
          have d0 : W1.cell? ⟨D, 0, none⟩ = some (.string s) := KD.out.cell 0
          have d1 : W1.cell? ⟨D, 1, none⟩ = some (.string u) := KD.out.cell 1
          have b1 : W1.cell? ⟨X, 1, none⟩ = some (.slice (some ⟨g, o, none⟩) ls.length c) := HXA.out _ (HB1.out 0)
          go_quiet (first | (go_at_call 16; with_reducible exact Calls.quiet_of_same (HW1.out _)) | (go_at_call 16; with_reducible exact Calls.quiet_of_same (HW2.out _)))
          go_wp2_with (fail)
          exact HE.out _ _ _ _ _ _ _ _ _ _ _ _ _ _ _ _ _ _ _ _ _ _ _ _ _ _ _ _ _ _ _ _ _ _ _ HX (Lib.hid (HB1.out _))
        | true =>
          by_cases hj0 : j = 0
          · subst hj0
            have HNX := Lib.hid (LckS.first hq ⟨hbn, hdv⟩)
            rw [Nat.zero_mul, Nat.add_zero] at q0 q1
            have j0 : (0 : Int) < ls.length := by omega
            clear hwm hlt hrw hl hj hck hq hbn hdv k1 k2 jI
            go_upto_region 6 with (fail)
            obtain ⟨D, hD⟩ : ∃ D, D = wr.heap.size := ⟨_, rfl⟩
            obtain ⟨W1, hW1⟩ : ∃ W : World, W = wr.alloc (.cells #[.string s, .string u] 39) := ⟨_, rfl⟩
            have B1 : Hid (Below wr.heap.size wr W1) := Lib.hid (by rw [hW1]; exact (Below.refl _ _).alloc (Nat.le_refl _) _)
            have KD : Hid (Blk W1 D 39 [.string s, .string u]) := Lib.hid (by rw [hW1, hD]; exact Blk.made _ _ _)
            have HB1 : Hid (∀ m, Below w.heap.size w (W1.drewN m)) := Lib.hid fun m => below_drewN (HWM.out.trans (B1.out.mono HWM.out.size)) m
            rw [← hW1, ← hD]
            clear hW1 hD q0 q1
            have d0 : W1.cell? ⟨D, 0, none⟩ = some (.string s) := KD.out.cell 0
            have d1 : W1.cell? ⟨D, 1, none⟩ = some (.string u) := KD.out.cell 1
            have b1 : W1.cell? ⟨X, 1, none⟩ = some (.slice (some ⟨g, o, none⟩) ls.length c) := HXA.out _ (HB1.out 0)
            go_quiet (first | (go_at_call 16; with_reducible exact Calls.quiet_of_same (HW1.out _)) | (go_at_call 16; with_reducible exact Calls.quiet_of_same (HW2.out _)))
            go_wp2_with (fail)
            refine ⟨⟨1, by go_num, HLT.out, HNX.out, HB1.out _⟩, by simp [intOf]; omega⟩
          · obtain ⟨k, hjk⟩ : ∃ k, j = k + 1 := ⟨j - 1, by omega⟩
            have jw : IntKind.i64.wrap ((j : Int) - 1) = (k : Int) := by
              rw [IntWalk.i64_in _ (by omega)]
              omega
            have kI : (k : Int) < ls.length := by omega
            have jp : (0 : Int) < (j : Int) := by omega
            have jp2 : 0 < j := by omega
            have jp3 : decide (0 < j) = true := decide_eq_true jp2
            have jp4 : decide ((0 : Int) < (j : Int)) = true := decide_eq_true jp
            obtain ⟨p, hp⟩ : ∃ p, ls[k]? = some p := ⟨_, List.getElem?_eq_getElem (by omega)⟩
            have HRW := Lib.hid (hrw.row.at' (i := k) (r := lbV p) (by rw [List.getElem?_map, hp]; rfl))
            obtain ⟨_, r0, _⟩ := hrw.cells hp
            obtain ⟨s', g', u'⟩ := p
            simp only at r0
            have HGL : Hid (g < wr.heap.size) := Lib.hid (by
              obtain ⟨g2, o2, e, h, _⟩ := HRW.out
              injection e with e
              injection e with e _ _
              rw [e]
              exact h)
            have hq1 : ls[k + 1]? = some ⟨s, g0, u⟩ := by rw [← hjk]; exact hq
            have hck1 : LckS ls (k + 1) := by rw [← hjk]; exact hck
            obtain ⟨a, ha⟩ : ∃ a, Op.bytesLess s'.toList s.toList = a := ⟨_, rfl⟩
            have HNX : Hid (a = true → LckS ls (j + 1)) := Lib.hid fun h1 => by
              rw [hjk]
              exact LckS.next hck1 hp hq1 ⟨hbn, hdv⟩ (by rw [ha]; exact h1)
            have HNO : Hid (a = false → ¬ MayS ⟨n, ls⟩) := Lib.hid fun h => not_mayO hp hq1 (by rw [ha]; exact h)
            clear hwm hlt hrw hl hj hck hq hbn hdv k1 k2 hj0 hjk hp hq1 hck1 HRW
            cases a with
            | false =>
              have HX := Lib.hid (HNO.out rfl)
              have R0 := Lib.hid r0
              clear r0
              go_upto_region 6 with (fail)
              obtain ⟨D, hD⟩ : ∃ D, D = wr.heap.size := ⟨_, rfl⟩
              obtain ⟨W1, hW1⟩ : ∃ W : World, W = wr.alloc (.cells #[.string s, .string u] 39) := ⟨_, rfl⟩
              have B1 : Hid (Below wr.heap.size wr W1) := Lib.hid (by rw [hW1]; exact (Below.refl _ _).alloc (Nat.le_refl _) _)
              have KD : Hid (Blk W1 D 39 [.string s, .string u]) := Lib.hid (by rw [hW1, hD]; exact Blk.made _ _ _)
              have HB1 : Hid (∀ m, Below w.heap.size w (W1.drewN m)) := Lib.hid fun m => below_drewN (HWM.out.trans (B1.out.mono HWM.out.size)) m
              rw [← hW1, ← hD]
              clear hW1 hD q0 q1
              have d0 : W1.cell? ⟨D, 0, none⟩ = some (.string s) := KD.out.cell 0
              have d1 : W1.cell? ⟨D, 1, none⟩ = some (.string u) := KD.out.cell 1
              have b1 : W1.cell? ⟨X, 1, none⟩ = some (.slice (some ⟨g, o, none⟩) ls.length c) := HXA.out _ (HB1.out 0)
              have r0 : W1.cell? ⟨g, o + k * 2, none⟩ = some (.string s') := by rw [B1.out.cell (p := ⟨g, o + k * 2, none⟩) HGL.out]; exact R0.out
              go_quiet (first | (go_at_call 16; with_reducible exact Calls.quiet_of_same (HW1.out _)) | (go_at_call 16; with_reducible exact Calls.quiet_of_same (HW2.out _)))
              go_wp2_with (fail)
              exact HE.out _ _ _ _ _ _ _ _ _ _ _ _ _ _ _ _ _ _ _ _ _ _ _ _ _ _ _ _ _ _ _ _ _ _ _ HX (Lib.hid (HB1.out _))
            | true =>
              have HX := Lib.hid (HNX.out rfl)
              have R0 := Lib.hid r0
              clear r0
              go_upto_region 6 with (fail)
              obtain ⟨D, hD⟩ : ∃ D, D = wr.heap.size := ⟨_, rfl⟩
              obtain ⟨W1, hW1⟩ : ∃ W : World, W = wr.alloc (.cells #[.string s, .string u] 39) := ⟨_, rfl⟩
              have B1 : Hid (Below wr.heap.size wr W1) := Lib.hid (by rw [hW1]; exact (Below.refl _ _).alloc (Nat.le_refl _) _)
              have KD : Hid (Blk W1 D 39 [.string s, .string u]) := Lib.hid (by rw [hW1, hD]; exact Blk.made _ _ _)
              have HB1 : Hid (∀ m, Below w.heap.size w (W1.drewN m)) := Lib.hid fun m => below_drewN (HWM.out.trans (B1.out.mono HWM.out.size)) m
              rw [← hW1, ← hD]
              clear hW1 hD q0 q1
              have d0 : W1.cell? ⟨D, 0, none⟩ = some (.string s) := KD.out.cell 0
              have d1 : W1.cell? ⟨D, 1, none⟩ = some (.string u) := KD.out.cell 1
              have b1 : W1.cell? ⟨X, 1, none⟩ = some (.slice (some ⟨g, o, none⟩) ls.length c) := HXA.out _ (HB1.out 0)
              have r0 : W1.cell? ⟨g, o + k * 2, none⟩ = some (.string s') := by rw [B1.out.cell (p := ⟨g, o + k * 2, none⟩) HGL.out]; exact R0.out
              go_quiet (first | (go_at_call 16; with_reducible exact Calls.quiet_of_same (HW1.out _)) | (go_at_call 16; with_reducible exact Calls.quiet_of_same (HW2.out _)))
              go_wp2_with (fail)
              refine ⟨⟨j + 1, by go_num, HLT.out, HX.out, HB1.out _⟩, by simp [intOf]; omega⟩
    · have k1 : decide ((j : Int) < ls.length) = false := decide_eq_false (by omega)
      have k2 : decide (j < ls.length) = false := decide_eq_false hlt
      have e : j = ls.length := by omega
      have HF : Hid (LckS ls ls.length) := Lib.hid (e ▸ hck)
      clear e hj hl hrw hwm hlt hck
      go_wp2_with (fail)
      exact HQ.out _ _ _ _ _ _ _ _ _ _ _ _ _ _ _ _ _ _ _ _ _ _ _ _ _ _ _ _ _ _ _ _ _ _ _ _ HF HWM
set_option maxRecDepth 100000 in
set_option maxHeartbeats 4000000 in
theorem checkK_any (n : ByteArray) (v : Value) (ls : List Qu) (w : World) (h1 : RsLb w v ls) (hs : n.size ≤ maxLen) :
    Calls Try.prog 7 #[.agg #[.string n, v]] w fun e w' => ∃ k : Int, e = .returned (.int .i64 k) ∧ ((k = 0 ∧ MayS ⟨n, ls⟩) ∨ (k = 1 ∧ ¬ MayS ⟨n, ls⟩)) ∧ Below w.heap.size w w' := by
  obtain ⟨A1, c1, rfl, hl1⟩ := h1.form
  unfold maxLen at hl1
  obtain ⟨X, hX⟩ : ∃ X, X = w.heap.size := ⟨_, rfl⟩
  obtain ⟨W0, hW0⟩ : ∃ W : World, W = w.alloc (.cells #[.string n, .slice A1 ls.length c1] 24) := ⟨_, rfl⟩
  have D0 : Hid (Below w.heap.size w W0) := Lib.hid (by rw [hW0]; exact (Below.refl _ _).alloc (Nat.le_refl _) _)
  have X1 : Hid (Blk W0 X 24 [.string n, .slice A1 ls.length c1]) := Lib.hid (by rw [hW0, hX]; exact Blk.made w _ _)
  have R1 := Lib.hid (h1.below D0.out)
  have p0 : W0.cell? ⟨X, 0, none⟩ = some (.string n) := X1.out.cell 0
  have p1 : W0.cell? ⟨X, 1, none⟩ = some (.slice A1 ls.length c1) := X1.out.cell 1
  have HX : Hid (W0 = w.alloc (.cells #[.string n, .slice A1 ls.length c1] 24)) := Lib.hid hW0
  have HG : Hid (∀ q ∈ ls, q.g = 0) := Lib.hid fun q hq => (h1.ok q hq).2.2
  obtain ⟨b, hbn⟩ : ∃ b, wordB n.toList = b := ⟨_, rfl⟩
  have HW1 := Lib.hid (wordK n b hbn hs)
  clear h1 hW0 hs
  go_enter Try.func7, Try.ntmps7
  go_upto_region 1 with (fail)
  rw [← HX.out, ← hX]
  clear HX hX
  go_wp2_with (fail)
  refine (HW1.out _).mono ?_
  rintro e w1 ⟨rfl, hw1⟩
  replace hw1 := hw1.symm
  subst hw1
  cases b with
  | false =>
    have HN : Hid (¬ MayS ⟨n, ls⟩) := Lib.hid fun h => by have := h.n; rw [hbn] at this; cases this
    clear hbn hl1
    go_wp2_with (fail)
    go_ret
    exact ⟨1, rfl, .inr ⟨rfl, HN.out⟩, D0.out⟩
  | true =>
    have HB := Lib.hid hbn
    by_cases h8 : 8 < ls.length
    · have k1 : decide ((8 : Int) < (ls.length : Int)) = true := decide_eq_true (by omega)
      have HN : Hid (¬ MayS ⟨n, ls⟩) := Lib.hid fun h => by have := h.few; simp only at this; omega
      clear hbn hl1 h8
      go_wp2_with (fail)
      go_ret
      exact ⟨1, rfl, .inr ⟨rfl, HN.out⟩, D0.out⟩
    · have k1 : decide ((8 : Int) < (ls.length : Int)) = false := decide_eq_false (by omega)
      have HL : Hid (ls.length ≤ 8) := Lib.hid (by omega)
      clear hbn hl1 h8
      go_wp2_with (fail)
      refine lkc_loop _ _ _ _ _ _ _ _ _ _ _ _ _ _ _ _ _ _ _ _ _ _ _ _ _ _ _ _ _ _ _ _ _ _ _ _ _ _ _ _ _ _ _ _ _ _ A1 c1 X n ls W0 X1 R1 HL (Lib.hid ?_) (Lib.hid ?_)
      · intro u2 u3 u4 u19 u20 u21 u22 u23 u24 u25 u26 u27 u28 u29 u30 u31 u32 u33 u34 u35 u36 u37 u38 u39 u40 u41 u42 u43 u44 u45 u46 u47 u48 u49 y w2 HF HB2
        go_wp2_with (fail)
        go_ret
        exact ⟨0, rfl, .inl ⟨rfl, HF.out.all HB.out HL.out HG.out⟩, D0.out.trans (HB2.out.mono D0.out.size)⟩
      · intro u3 u4 u19 u20 u21 u22 u23 u24 u25 u26 u27 u28 u29 u30 u31 u32 u33 u34 u35 u36 u37 u38 u39 u40 u41 u42 u43 u44 u45 u46 u47 u48 u49 y w2 HN HB2
        go_ret
        exact ⟨1, rfl, .inr ⟨rfl, HN.out⟩, D0.out.trans (HB2.out.mono D0.out.size)⟩
end Go.Proofs.Ytckgpocfcanokaa
