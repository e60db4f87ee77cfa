/- The developers' Print, of selectors that may be. Condition: a name of at most 24 bytes, at most 8 questions of words. -/
import Derived.Test.YtckgpocfcanokaaWrS
import Derived.Test.YtckgpocfcanokaaLkStr
import Derived.Test.YtckgpocfcanokaaLkClo
import Derived.Test.YtckgpocfcanokaaLbPart
import Derived.Test.YtckgpocfcanokaaHere
import Derived.Test.YtckgpocfcanokaaRdStr
import Derived.Deep.Cut
namespace Go.Proofs.Ytckgpocfcanokaa
open Go.RowKit

theorem sgT_list {g : Int} (hg : g = 0 ∨ g = 1 ∨ g = 2) : (sgT g).toList = sgB g := by rcases hg with rfl | rfl | rfl <;> (rw [ByteArray.toList_eq]; rfl)
theorem qok_small {q : Qu} (h : QOk q) : q.n.size ≤ 24 ∧ q.v.size ≤ 24 := by
  have hs : ∀ s : ByteArray, wordB s.toList = true → s.size ≤ 24 := fun s hw => by
    unfold wordB at hw
    simp only [Bool.and_eq_true, decide_eq_true_eq] at hw
    rw [← bl_size]
    exact hw.1.2
  exact ⟨hs _ h.n, hs _ h.v⟩
theorem rd_new (w : World) (t : TypeId) (x : UInt8) : Rd (w.alloc (.cells #[.int .u8 (x.toNat : Int)] t)) (.slice (some ⟨w.heap.size, 0, none⟩) 1 1) [x] :=
  .inr ⟨w.heap.size, 0, 1, rfl, by simp, Nat.le_refl _, by unfold maxLen; omega, fun i hi => by
    have e : i = 0 := by simp at hi; omega
    subst e
    exact (Blk.made w t [.int .u8 (x.toNat : Int)]).cell 0⟩
/-- The text so far. -/
def soB (n : ByteArray) (qs : List Qu) (j : Nat) : List UInt8 := n.toList ++ partB 0 (qs.take j)
theorem soB_len {n : ByteArray} {qs : List Qu} (j : Nat) (hn : n.size ≤ 24) (hq : ∀ q ∈ qs, QOk q) (hl : qs.length ≤ 8) : (soB n qs j).length ≤ 432 := by
  have h2 := partB_len 0 (qs.take j) fun q hq' => qok_small (hq q (List.mem_of_mem_take hq'))
  have h3 : (qs.take j).length ≤ 8 := by rw [List.length_take]; omega
  unfold soB
  rw [List.length_append, bl_size]
  omega
def mkB (j : Nat) : ByteArray := if j = 0 then ⟨#[123]⟩ else ⟨#[44]⟩
theorem mkB_list (j : Nat) : (mkB j).toList = if j = 0 then [123] else [44] := by
  unfold mkB
  split <;> rw [ByteArray.toList_eq]
theorem soB_next {n : ByteArray} {qs : List Qu} {j : Nat} {q : Qu} (hq : qs[j]? = some q) : (((soB n qs j ++ (mkB j).toList) ++ q.n.toList) ++ sgB q.g) ++ q.v.toList = soB n qs (j + 1) := by
  obtain ⟨hj, e⟩ := List.getElem?_eq_some_iff.1 hq
  have h1 : qs.take (j + 1) = qs.take j ++ [q] := by rw [List.take_succ_eq_append_getElem hj, e]
  have h2 : (qs.take j).length = j := by rw [List.length_take]; omega
  unfold soB
  rw [h1, partB_snoc, h2, Nat.zero_add, pieceB, mkB_list]
  simp
noncomputable def body_lkp : Code := (((Try.f18.body.map loopsOf).getD [])[0]?).getD .skip
set_option maxRecDepth 100000 in
set_option maxHeartbeats 4000000 in
theorem lkp_loop (c0 c2 c5 c6 c7 c8 c9 c10 c14 c15 c16 c17 c18 c19 c20 c21 c22 c23 c24 c25 c26 c27 c28 c29 c30 c31 c32 c33 c34 c35 c36 c37 c38 c39 c40 c41 c42 : Value) (w0 : World) (X : Value) (A : Option Addr) (c : Nat) (n : ByteArray) (qs : List Qu) (v0 : Value) (w : World) (hr : Hid (RsQu w0 (.slice A qs.length c) qs)) (hn : Hid (n.size ≤ 24 ∧ qs.length ≤ 8 ∧ ∀ q ∈ qs, QOk q)) (h0 : Hid (WB w0 w v0 n.toList)) {Q : Exit → Act → World → Prop}
    (HQ : Hid (∀ (u6 u14 u15 u16 u17 u18 u19 u20 u21 u22 u23 u24 u25 u26 u27 u28 u29 u30 u31 u32 u33 v x y : Value) (w' : World), Hid (WB w0 w' v (soB n qs qs.length)) → Q (.exit 0) ⟨List.toArray (c0 :: X :: c2 :: v :: x :: c5 :: u6 :: c7 :: c8 :: c9 :: c10 :: (.slice A qs.length c) :: (.int .i64 (qs.length : Int)) :: y :: u14 :: u15 :: u16 :: u17 :: u18 :: u19 :: u20 :: u21 :: u22 :: u23 :: u24 :: u25 :: u26 :: u27 :: u28 :: u29 :: u30 :: u31 :: u32 :: u33 :: c34 :: c35 :: c36 :: c37 :: c38 :: c39 :: c40 :: c41 :: c42 :: []), []⟩ w')) :
    (Code.loop body_lkp).wp Try.prog Q ⟨List.toArray (c0 :: X :: c2 :: v0 :: (.string ⟨#[123]⟩) :: c5 :: c6 :: c7 :: c8 :: c9 :: c10 :: (.slice A qs.length c) :: (.int .i64 (qs.length : Int)) :: (.int .i64 0) :: c14 :: c15 :: c16 :: c17 :: c18 :: c19 :: c20 :: c21 :: c22 :: c23 :: c24 :: c25 :: c26 :: c27 :: c28 :: c29 :: c30 :: c31 :: c32 :: c33 :: c34 :: c35 :: c36 :: c37 :: c38 :: c39 :: c40 :: c41 :: c42 :: []), []⟩ w := by
  unfold body_lkp
  conv => arg 2; arg 1; whnf
  go_loopw [3, 4, 13] (fun v x y wx => ∃ (j : Nat), y = .int .i64 (j : Int) ∧ x = .string (mkB j) ∧ j ≤ qs.length ∧ WB w0 wx v (soB n qs j)) (fun _ _ y _ => qs.length - (intOf y).toNat)
  case atStart => exact ⟨0, rfl, rfl, Nat.zero_le _, by unfold soB; simpa [partB] using h0.out⟩
  case round =>
    obtain ⟨j, rfl, rfl, hj, hw⟩ := hrel
    have HW := Lib.hid hw
    have hl := hn.out.2.1
    have pI : (qs.length : Int) ≤ 8 := by omega
    by_cases hlt : j < qs.length
    · have jI : (j : Int) < qs.length := by omega
      have HLT := Lib.hid hlt
      obtain ⟨q, hq⟩ : ∃ q, qs[j]? = some q := ⟨_, List.getElem?_eq_getElem hlt⟩
      have hqok := hn.out.2.2 q (List.mem_of_getElem? hq)
      obtain ⟨g, o, rfl⟩ := hr.out.addr hq
      have hgl : g < w0.heap.size := by
        obtain ⟨g', o', he, h, _⟩ := hr.out.row.at' (i := j) (r := quV q) (by rw [List.getElem?_map, hq]; rfl)
        injection he with he
        injection he with he _ _
        rw [he]
        exact h
      obtain ⟨_, q0, q1, q2⟩ := hr.out.cells hq
      have b0 : wr.cell? ⟨g, o + j * 3, none⟩ = some (.string q.n) := by rw [hw.low.cell (p := ⟨g, o + j * 3, none⟩) hgl]; exact q0
      have b1 : wr.cell? ⟨g, o + j * 3 + 1, none⟩ = some (.int .i64 q.g) := by rw [hw.low.cell (p := ⟨g, o + j * 3 + 1, none⟩) hgl]; exact q1
      have b2 : wr.cell? ⟨g, o + j * 3 + 2, none⟩ = some (.string q.v) := by rw [hw.low.cell (p := ⟨g, o + j * 3 + 2, none⟩) hgl]; exact q2
      have hsz := soB_len j hn.out.1 hn.out.2.2 hl
      obtain ⟨hz1, hz2⟩ := qok_small hqok
      have HNX := Lib.hid (soB_next (n := n) hq)
      have hsg := sgB_len q.g
      have HGL : Hid ((sgT q.g).toList = sgB q.g) := Lib.hid (sgT_list hqok.g)
      have HML : Hid ((mkB j).size = 1) := Lib.hid (by unfold mkB; split <;> rfl)
      obtain ⟨s, g0, u⟩ := q
      simp only at b0 b1 b2 hz1 hz2 HNX HGL hsg
      have HT : Hid (∀ W, Calls Try.prog 26 #[.int .i64 g0] W fun e w' => e = .returned (.string (sgT g0)) ∧ w' = W) := Lib.hid fun W => textOf_any g0 W
      obtain ⟨sg, hsgt⟩ : ∃ x, x = sgT g0 := ⟨_, rfl⟩
      obtain ⟨mk, hmk⟩ : ∃ x, x = mkB j := ⟨_, rfl⟩
      rw [← hsgt] at HT HGL
      rw [← hmk] at HNX HML ⊢
      rw [← HGL.out] at HNX hsg
      have HSZ : Hid ((soB n qs j).length ≤ 432 ∧ s.size ≤ 24 ∧ u.size ≤ 24 ∧ sg.size ≤ 2) := Lib.hid ⟨hsz, hz1, hz2, by rw [← bl_size]; exact hsg⟩
      obtain ⟨xs, hxs⟩ : ∃ x, x = soB n qs j := ⟨_, rfl⟩
      rw [← hxs] at HW HNX HSZ
      clear hsgt hmk hxs hsg hz1 hz2 hsz hgl q0 q1 q2 hqok hq hl hj hlt hw
      go_upto_region 6 with (fail)
      obtain ⟨D, hD⟩ : ∃ D, D = wr.heap.size := ⟨_, rfl⟩
      obtain ⟨W1, hW1⟩ : ∃ W : World, W = wr.alloc (.cells #[.string s, .int .i64 g0, .string u] 41) := ⟨_, rfl⟩
      have K1 : Hid (WBD w0 W1 u3 xs D 41 [.string s, .int .i64 g0, .string u]) := Lib.hid (by rw [hW1, hD]; exact HW.out.made _ _)
      rw [← hW1, ← hD]
      clear hW1 hD b0 b1 b2 HW
      go_upto_region 7 with (at_builtin; (refine wpList_wbd rfl (.tmp 17) (.tmp 18) rfl rfl K1.out rfl (by have := HSZ.out; have := HML.out; omega) ?_); intro v2 W2 k2; (have K2 := Lib.hid k2); clear k2)
      have d0 : W2.cell? ⟨D, 0, none⟩ = some (.string s) := K2.out.blk.cell 0
      clear K1
      go_upto_region 8 with (at_builtin; (refine wpList_wbd rfl (.tmp 20) (.tmp 22) rfl rfl K2.out rfl (by have := HSZ.out; have := HML.out; simp only [List.length_append, bl_size]; omega) ?_); intro v3 W3 k3; (have K3 := Lib.hid k3); clear k3)
      have d1 : W3.cell? ⟨D, 1, none⟩ = some (.int .i64 g0) := K3.out.blk.cell 1
      clear K2 d0
      go_wp2_with (fail)
      refine (HT.out W3).mono ?_
      rintro e w4 ⟨rfl, hw4⟩
      replace hw4 := hw4.symm
      subst hw4
      go_upto_region 9 with (at_builtin; (refine wpList_wbd rfl (.tmp 24) (.tmp 27) rfl rfl K3.out rfl (by have := HSZ.out; have := HML.out; simp only [List.length_append, bl_size]; omega) ?_); intro v4 W4 k4; (have K4 := Lib.hid k4); clear k4)
      have d2 : W4.cell? ⟨D, 2, none⟩ = some (.string u) := K4.out.blk.cell 2
      clear K3 d1
      go_upto_region 10 with (at_builtin; (refine wpList_wbd rfl (.tmp 29) (.tmp 31) rfl rfl K4.out rfl (by have := HSZ.out; have := HML.out; simp only [List.length_append, bl_size]; omega) ?_); intro v5 W5 k5; (have K5 := Lib.hid k5); clear k5)
      have K6 : Hid (WB w0 W5 v5 (soB n qs (j + 1))) := Lib.hid (by rw [← HNX.out]; exact K5.out.wb)
      clear K4 d2 K5
      go_wp2_with (fail)
      have hlt := HLT.out
      refine ⟨⟨j + 1, by go_num, rfl, hlt, K6.out⟩, by simp [intOf]; omega⟩
    · have k1 : decide ((j : Int) < qs.length) = false := decide_eq_false (by omega)
      have k2 : decide (j < qs.length) = false := decide_eq_false hlt
      have e : j = qs.length := by omega
      have HF : Hid (WB w0 wr u3 (soB n qs qs.length)) := Lib.hid (e ▸ hw)
      clear e hl hj hlt hw HW
      go_wp2_with (fail)
      exact HQ.out _ _ _ _ _ _ _ _ _ _ _ _ _ _ _ _ _ _ _ _ _ _ _ _ _ HF
set_option maxRecDepth 100000 in
set_option maxHeartbeats 4000000 in
theorem print_any (n : ByteArray) (v : Value) (qs : List Qu) (w : World) (h : RsQu w v qs) (hn : n.size ≤ 24 ∧ qs.length ≤ 8 ∧ ∀ q ∈ qs, QOk q) :
    Calls Try.prog 18 #[.agg #[.string n, v]] w fun e w' => ∃ b : ByteArray, e = .returned (.string b) ∧ b.toList = textB ⟨n, qs⟩ ∧ Below w.heap.size w w' := by
  obtain ⟨A, c, rfl, _⟩ := h.form
  obtain ⟨X, hX⟩ : ∃ X, X = w.heap.size := ⟨_, rfl⟩
  obtain ⟨W0, hW0⟩ : ∃ W : World, W = w.alloc (.cells #[.string n, .slice A qs.length c] 28) := ⟨_, rfl⟩
  have D0 : Hid (Below w.heap.size w W0) := Lib.hid (by rw [hW0]; exact (Below.refl _ _).alloc (Nat.le_refl _) _)
  have X1 : Hid (Blk W0 X 28 [.string n, .slice A qs.length c]) := Lib.hid (by rw [hW0, hX]; exact Blk.made w _ _)
  have R1 := Lib.hid (h.below D0.out)
  have HX : Hid (W0 = w.alloc (.cells #[.string n, .slice A qs.length c] 28)) := Lib.hid hW0
  have HN := Lib.hid hn
  have HNM : Hid (n.size ≤ maxLen) := Lib.hid (by have := hn.1; unfold maxLen; omega)
  have HBR : Hid (Below W0.heap.size W0 W0) := Lib.hid (Below.refl _ _)
  have p0 : W0.cell? ⟨X, 0, none⟩ = some (.string n) := X1.out.cell 0
  clear h hW0 hn
  go_enter Try.func18, Try.ntmps18
  go_upto_region 1 with (fail)
  rw [← HX.out, ← hX]
  clear HX hX
  go_upto_region 2 with ((with_reducible refine here_conv ?_); (refine wpList_wb_str (w0 := W0) rfl (.tmp 8) rfl HBR.out n rfl HNM.out ?_); intro v1 W1 k1; (have K1 := Lib.hid k1); clear k1)
  have D1 : Hid (Below w.heap.size w W1) := Lib.hid (D0.out.trans (K1.out.low.mono D0.out.size))
  have X2 := Lib.hid (X1.out.below K1.out.low X1.out.lt)
  have p1 : W1.cell? ⟨X, 1, none⟩ = some (.slice A qs.length c) := X2.out.cell 1
  clear p0
  go_wp2_with (fail)
  refine lkp_loop _ _ _ _ _ _ _ _ _ _ _ _ _ _ _ _ _ _ _ _ _ _ _ _ _ _ _ _ _ _ _ _ _ _ _ _ _ W0 (.pointer (some ⟨X, 0, none⟩)) A c n qs v1 W1 R1 HN K1 (Lib.hid ?_)
  intro u6 u14 u15 u16 u17 u18 u19 u20 u21 u22 u23 u24 u25 u26 u27 u28 u29 u30 u31 u32 u33 v2 x y W2 K2
  have X3 := Lib.hid (X1.out.below K2.out.low X1.out.lt)
  have D2 : Hid (Below w.heap.size w W2) := Lib.hid (D0.out.trans (K2.out.low.mono D0.out.size))
  have p2 : W2.cell? ⟨X, 1, none⟩ = some (.slice A qs.length c) := X3.out.cell 1
  have l8 := HN.out.2.1
  have hsz := soB_len qs.length HN.out.1 HN.out.2.2 l8
  clear p1 K1 X2 X1 D1
  by_cases h0 : 0 < qs.length
  · have k1 : decide ((0 : Int) < (qs.length : Int)) = true := decide_eq_true (by omega)
    have k0 : decide (0 < qs.length) = true := decide_eq_true h0
    have kI : (0 : Int) < (qs.length : Int) := by omega
    have HSZ := Lib.hid hsz
    have K3 : Hid (WB W0 (W2.alloc (.cells #[.int .u8 125] 5)) v2 (soB n qs qs.length)) := Lib.hid (K2.out.on ((Below.refl _ _).alloc (Nat.le_refl _) _))
    have RD : Hid (Rd (W2.alloc (.cells #[.int .u8 125] 5)) (.slice (some ⟨W2.heap.size, 0, none⟩) 1 1) [125]) := Lib.hid (rd_new W2 5 125)
    have HT : Hid (soB n qs qs.length ++ [125] = textB ⟨n, qs⟩) := Lib.hid (by
      unfold soB
      rw [List.take_of_length_le (Nat.le_refl _), text_part, List.append_assoc]
      cases hq : qs with
      | nil => rw [hq] at h0; simp at h0
      | cons q r => rfl)
    clear hsz l8
    go_upto_region 14 with (at_builtin; (refine wpList_wb rfl (.tmp 38) (.tmp 39) rfl rfl K3.out rfl RD.out (by decide) (by have := HSZ.out; simp only [List.length_cons, List.length_nil]; omega) ?_); intro v4 W4 k4; (have K4 := Lib.hid k4); clear k4)
    obtain ⟨b, hb⟩ : ∃ b, b = strOf (soB n qs qs.length ++ [125]) := ⟨_, rfl⟩
    have HB : Hid (b.toList = textB ⟨n, qs⟩) := Lib.hid (by rw [hb, strOf_list, HT.out])
    have HBE := Lib.hid hb
    have RD4 := Lib.hid K4.out.row.rd
    clear hb RD K3
    go_wp2_with ((with_reducible refine here_conv ?_); refine wpList_rd_str _ rfl (.tmp 41) _ _ 5 rfl Try.underlying53 Try.underlying5 Try.underlying9 _ RD4.out ?_; rw [← HBE.out])
    go_ret
    exact ⟨b, rfl, HB.out, D0.out.trans (K4.out.low.mono D0.out.size)⟩
  · have k1 : decide ((0 : Int) < (qs.length : Int)) = false := decide_eq_false (by omega)
    have k0 : decide (0 < qs.length) = false := decide_eq_false h0
    have HT : Hid (soB n qs qs.length = textB ⟨n, qs⟩) := Lib.hid (by
      unfold soB
      rw [List.take_of_length_le (Nat.le_refl _), text_part]
      cases hq : qs with
      | nil => simp
      | cons q r => rw [hq] at h0; simp at h0)
    obtain ⟨b, hb⟩ : ∃ b, b = strOf (soB n qs qs.length) := ⟨_, rfl⟩
    have HB : Hid (b.toList = textB ⟨n, qs⟩) := Lib.hid (by rw [hb, strOf_list, HT.out])
    have HBE := Lib.hid hb
    have RD4 := Lib.hid K2.out.row.rd
    clear hb hsz l8 h0
    go_wp2_with ((with_reducible refine here_conv ?_); refine wpList_rd_str _ rfl (.tmp 41) _ _ 5 rfl Try.underlying53 Try.underlying5 Try.underlying9 _ RD4.out ?_; rw [← HBE.out])
    go_ret
    exact ⟨b, rfl, HB.out, D2.out⟩
end Go.Proofs.Ytckgpocfcanokaa
