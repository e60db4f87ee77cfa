/- The contract of the third reference's Expand: the first n bytes of the published blocks. Conditions: at most 800000 bytes each, n at most 8160. -/
import Derived.Test.YtpjidfcbckndfaaDoorRefMac
import Derived.Test.YtpjidfcbckndfaaDoorRds
namespace Go.Proofs.YtpjidfcbckndfaaDoor
open Go.RowKit

/-- The block with this number; the first j blocks; the first n bytes. -/
def tB (key info : List UInt8) : Nat → List UInt8
  | 0 => []
  | j + 1 => macB key (tB key info j ++ info ++ [UInt8.ofNat (j + 1)])
def outB (key info : List UInt8) : Nat → List UInt8
  | 0 => []
  | j + 1 => outB key info j ++ tB key info (j + 1)
def expB (key info : List UInt8) (n : Nat) : List UInt8 := (outB key info n).take n
theorem tB_succ_length (key info : List UInt8) (j : Nat) : (tB key info (j + 1)).length = 32 := macB_length _ _
theorem tB_le (key info : List UInt8) (j : Nat) : (tB key info j).length ≤ 32 := by
  cases j with
  | zero => simp [tB]
  | succ j => rw [tB_succ_length]; omega
theorem outB_length (key info : List UInt8) (j : Nat) : (outB key info j).length = 32 * j := by
  induction j with
  | zero => rfl
  | succ j ih => rw [outB, List.length_append, ih, tB_succ_length]; omega
theorem outB_more (key info : List UInt8) (j d : Nat) : ∃ z, outB key info (j + d) = outB key info j ++ z := by
  induction d with
  | zero => exact ⟨[], by simp⟩
  | succ d ih =>
    obtain ⟨z, hz⟩ := ih
    exact ⟨z ++ tB key info (j + d + 1), by rw [← Nat.add_assoc, outB, hz, List.append_assoc]⟩
theorem outB_take (key info : List UInt8) {n j k : Nat} (hj : n ≤ 32 * j) (hjk : j ≤ k) : (outB key info k).take n = (outB key info j).take n := by
  obtain ⟨d, rfl⟩ : ∃ d, k = j + d := ⟨k - j, by omega⟩
  obtain ⟨z, hz⟩ := outB_more key info j d
  rw [hz, List.take_append_of_le_length (by rw [outB_length]; exact hj)]
theorem expB_of (key info : List UInt8) {n j : Nat} (h : n ≤ 32 * j) : (outB key info j).take n = expB key info n := by
  unfold expB
  rcases Nat.le_total j n with h1 | h1
  · exact (outB_take key info h h1).symm
  · exact outB_take key info (by omega) h1
theorem expB_length (key info : List UInt8) (n : Nat) : (expB key info n).length = n := by
  rw [expB, List.length_take, outB_length]; omega
/-- Fewer bytes are the beginning of more. -/
theorem expB_take (key info : List UInt8) {m n : Nat} (h : m ≤ n) : (expB key info n).take m = expB key info m := by
  rw [← expB_of key info (j := n) (n := m) (by omega), expB, List.take_take, Nat.min_eq_left h]
theorem own_shape {w : World} {base n : Nat} {t : TypeId} {v : Value} {xs : List Value} (h : w.ownsRow base t 1 v n xs) : ∃ A c, v = .slice A n c := by
  rcases h.2 with ⟨rfl, rfl⟩ | ⟨g, c, _, rfl, _⟩
  · exact ⟨_, _, rfl⟩
  · exact ⟨_, _, rfl⟩
theorem byte_at (j : Nat) : ((j : Int) + 1) % 256 = ((UInt8.ofNat (j + 1)).toNat : Int) := by
  simp only [UInt8.toNat_ofNat']; omega
def ExpRel (w : World) (key info : List UInt8) (n : Nat) (out last i : Value) (W : World) : Prop :=
  ∃ j : Nat, i = .int .i64 ((j : Int) + 1) ∧ 32 * j < n + 32 ∧ W.ownsRow w.heap.size 5 1 out (32 * j) ((outB key info j).map bv) ∧ Rd W last (tB key info j) ∧ Below w.heap.size w W
noncomputable def body_exps : Code := (((Tryd.f14.body.map loopsOf).getD [])[0]?).getD .skip
set_option maxRecDepth 100000 in
set_option maxHeartbeats 1000000 in
theorem exps_loop (c3 c4 c5 c6 c10 c11 c12 c13 c14 c15 c16 c17 c18 c19 c20 c21 c22 c23 c24 c25 c26 c27 c28 c29 c30 c31 c32 c33 c34 c35 : Value) (vk vi : Value) (key info : List UInt8) (n : Nat) (w : World) (hk : Hid (Rd w vk key)) (hf : Hid (Rd w vi info)) (lk : key.length ≤ 800000) (lf : info.length ≤ 800000) (hn : n ≤ 8160) {Q : Exit → Act → World → Prop}
    (HQ : Hid (∀ (u8 u9 u10 u11 u12 u13 u14 u15 u16 u17 u18 u19 u20 u21 u22 u23 u24 u25 u26 u27 u28 u29 u30 u31 u32 a : Value) (wx : World) (j : Nat), Hid (n ≤ 32 * j) → Hid (wx.ownsRow w.heap.size 5 1 a (32 * j) ((outB key info j).map bv)) → Hid (Below w.heap.size w wx) → Q (.exit 0) ⟨List.toArray (vk :: vi :: (.int .i64 (n : Int)) :: c3 :: c4 :: c5 :: c6 :: a :: u8 :: u9 :: u10 :: u11 :: u12 :: u13 :: u14 :: u15 :: u16 :: u17 :: u18 :: u19 :: u20 :: u21 :: u22 :: u23 :: u24 :: u25 :: u26 :: u27 :: u28 :: u29 :: u30 :: u31 :: u32 :: c33 :: c34 :: c35 :: []), []⟩ wx)) :
    (Code.loop body_exps).wp Tryd.prog Q ⟨List.toArray (vk :: vi :: (.int .i64 (n : Int)) :: c3 :: c4 :: c5 :: c6 :: (.slice none 0 0) :: (.slice none 0 0) :: (.int .i64 1) :: c10 :: c11 :: c12 :: c13 :: c14 :: c15 :: c16 :: c17 :: c18 :: c19 :: c20 :: c21 :: c22 :: c23 :: c24 :: c25 :: c26 :: c27 :: c28 :: c29 :: c30 :: c31 :: c32 :: c33 :: c34 :: c35 :: []), []⟩ w := by
  obtain ⟨i0, hi, hz0, hz1, hz2⟩ := info_parts info_u8
  have nI : (n : Int) ≤ 8160 := by omega
  unfold body_exps
  conv => arg 2; arg 1; whnf
  go_loopw [7, 8, 9] (fun a b i wx => ExpRel w key info n a b i wx) (fun _ _ i _ => n + 1 - (intOf i).toNat)
  case atStart => exact ⟨0, rfl, by omega, World.ownsRow_nil _ _ _ _, Rd.nil _, Below.refl _ _⟩
  case round =>
    obtain ⟨j, rfl, hj, owa, rdl, bl⟩ := hrel
    obtain ⟨L, hL⟩ : ∃ L, L = 32 * j := ⟨_, rfl⟩
    rw [← hL] at owa
    obtain ⟨A7, c7, rfl⟩ := own_shape owa
    have lI : (L : Int) ≤ 8191 := by omega
    have jI : (j : Int) ≤ 255 := by omega
    have HJ := Lib.hid hj
    have HL := Lib.hid hL
    have HO := Lib.hid owa
    have HR := Lib.hid rdl
    have HD := Lib.hid bl
    by_cases hlt : L < n
    · have hI : (L : Int) < n := by omega
      have HLR := Lib.hid (rdl.alloc (.cells #[] 5))
      have HK1 := Lib.hid (hk.out.below bl)
      have HF1 := Lib.hid (hf.out.below bl)
      have tl := tB_le key info j
      have HTL := Lib.hid tl
      clear owa rdl bl hL hj tl
      go_wp2_with (first
                   | at_builtin
                     refine wpList_append_rd _ rfl (.tmp 17) (.tmp 18) _ rfl wr.heap.size 5 i0 _ Tryd.underlying22 hi hz0 hz1 hz2 rfl (.slice (some ⟨wr.heap.size, 0, none⟩) 0 0) 0 [] rfl (World.ownsRow_lit wr #[] 0 (Nat.le_refl _) (by simp) rfl) _ (tB key info j) rfl HLR.out ?_ ?_ ?_
                     · have := HTL.out; omega
                     · simp
                     intro m1 w1 own1 g1
                     have E1 : Hid (Below wr.heap.size wr w1) := Lib.hid (((Below.refl _ _).alloc (Nat.le_refl _) _).grown g1 (by simp) (by simp [Value.ownBlock]))
                     have OW1 : Hid (w1.ownsRow wr.heap.size 5 1 m1 (tB key info j).length ((tB key info j).map bv)) := Lib.hid (by simpa using own1)
                     have HF2 := Lib.hid (HF1.out.below E1.out)
                     clear own1 g1 HLR
                   | at_builtin
                     refine wpList_append_rd _ rfl (.tmp 20) (.tmp 21) _ rfl wr.heap.size 5 i0 _ Tryd.underlying22 hi hz0 hz1 hz2 rfl m1 _ _ rfl OW1.out vi info rfl HF2.out ?_ ?_ ?_
                     · have := HTL.out; omega
                     · exact E1.out.size
                     intro m2 w2 own2 g2
                     have E2 := Lib.hid (E1.out.grown g2 E1.out.size (own_ge OW1.out))
                     rw [← List.map_append] at own2
                     have OW2 := Lib.hid own2
                     clear own2 g2 HF2 OW1
                   | at_builtin
                     refine wpList_append_rd _ rfl (.tmp 24) (.tmp 27) _ rfl wr.heap.size 5 i0 _ Tryd.underlying22 hi hz0 hz1 hz2 rfl m2 _ _ rfl (OW2.out.alloc _) _ [UInt8.ofNat (j + 1)] rfl (rd_one ?hz) ?_ ?_ ?_
                     rotate_left
                     · have := HTL.out; simp; omega
                     · have := E2.out.size; simp; omega
                     intro m3 w3 own3 g3
                     have E3 := Lib.hid ((E2.out.alloc E2.out.size _).grown g3 (by have := E2.out.size; simp; omega) (own_ge OW2.out))
                     rw [← List.map_append] at own3
                     have R3 := Lib.hid (Rd.of_own own3)
                     clear own3 g3 OW2)
      case hz => exact byte_at j
      refine (refMac_any _ _ key (tB key info j ++ info ++ [UInt8.ofNat (j + 1)]) _ (HK1.out.below E3.out) R3.out (by omega) (by have := HTL.out; simp; omega)).mono ?_
      rintro e w4 ⟨last, rfl, ownl, hb4⟩
      obtain ⟨ts, hts⟩ : ∃ z, z = tB key info (j + 1) := ⟨_, rfl⟩
      rw [show macB key (tB key info j ++ info ++ [UInt8.ofNat (j + 1)]) = ts from hts.symm] at ownl
      have LT : Hid (ts.length = 32) := by show _ = _; rw [hts, tB_succ_length]
      have HTS := Lib.hid hts
      have E4 := Lib.hid (E3.out.trans (hb4.mono E3.out.size))
      have OUT4 := Lib.hid (own_lain HO.out E4.out)
      have R4 := Lib.hid (Rd.of_own ownl)
      have AP4 : Hid (Apart2 last (.slice A7 L c7)) := Lib.hid (fun k hk1 ho => by
        have h1 := own_ge ownl k hk1
        have h2 := (HO.out.lt k ho).2
        have h3 := E3.out.size
        omega)
      have OL := Lib.hid ownl
      have D4 : Hid (Below w.heap.size w w4) := Lib.hid (HD.out.trans (E4.out.mono HD.out.size))
      clear ownl hb4 hts R3
      go_wp2_with (at_builtin
                   refine wpList_append_rd _ rfl (.tmp 30) (.tmp 31) _ rfl w.heap.size 5 i0 _ Tryd.underlying22 hi hz0 hz1 hz2 rfl _ L _ rfl OUT4.out last ts rfl R4.out ?_ ?_ ?_
                   · rw [LT.out]; omega
                   · exact D4.out.size
                   intro out2 w5 own5 g5)
      have R5 := Rd.of_own (AP4.out.kept OL.out g5)
      have D5 := D4.out.grown g5 D4.out.size (own_ge OUT4.out)
      go_roundw
      case rel =>
        refine ⟨j + 1, by go_num, by have := HL.out; omega, ?_, ?_, D5⟩
        · rw [LT.out, HL.out, ← List.map_append, HTS.out] at own5
          exact own5
        · rw [← HTS.out]
          exact R5
      case measure => have := HL.out; simp [intOf]; omega
    · have hI : (n : Int) ≤ L := by omega
      clear owa rdl bl hj
      subst hL
      have HLE : Hid (n ≤ 32 * j) := Lib.hid (by omega)
      go_wp2_with (fail)
      exact HQ.out _ _ _ _ _ _ _ _ _ _ _ _ _ _ _ _ _ _ _ _ _ _ _ _ _ _ _ j HLE HO HD
set_option maxRecDepth 100000 in
set_option maxHeartbeats 1000000 in
theorem refExpand_any (vk vi : Value) (key info : List UInt8) (n : Nat) (w : World) (hk : Rd w vk key) (hf : Rd w vi info) (lk : key.length ≤ 800000) (lf : info.length ≤ 800000) (hn : n ≤ 8160) :
    Calls Tryd.prog 14 #[vk, vi, .int .i64 (n : Int)] w (Fresh w (expB key info n)) := by
  obtain ⟨i0, hi, hz0, hz1, hz2⟩ := info_parts info_u8
  have HK := Lib.hid hk
  have HF := Lib.hid hf
  clear hk hf
  go_enter Tryd.func14, Tryd.ntmps14
  go_wp2_with (fail)
  refine exps_loop _ _ _ _ _ _ _ _ _ _ _ _ _ _ _ _ _ _ _ _ _ _ _ _ _ _ _ _ _ _ _ _ key info n w HK HF lk lf hn (Lib.hid ?_)
  intro u8 u9 u10 u11 u12 u13 u14 u15 u16 u17 u18 u19 u20 u21 u22 u23 u24 u25 u26 u27 u28 u29 u30 u31 u32 a w1 j hle own1 bl1
  have r1 := Rd.of_own own1.out
  obtain ⟨A2, c2, S2, r2⟩ := r1.high (P := Tryd.prog) 22 5 i0 Tryd.underlying22 hi hz1 n (by rw [outB_length]; exact hle.out)
  rw [expB_of key info hle.out] at r2
  have R2 := Lib.hid r2
  clear r1 r2 own1 hle
  go_wp2_with (fail)
  go_ret
  exact ⟨_, rfl, R2.out, bl1.out⟩
end Go.Proofs.YtpjidfcbckndfaaDoor
