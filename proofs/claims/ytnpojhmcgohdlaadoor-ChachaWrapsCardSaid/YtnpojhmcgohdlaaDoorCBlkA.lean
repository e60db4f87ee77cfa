/- chacha's block: the loop over the eight quarters. Conditions: sixteen words that fit; the table of the places as it is laid. -/
import Derived.Test.YtnpojhmcgohdlaaDoorCQuart
namespace Go.Proofs.YtnpojhmcgohdlaaDoor
open Go.RowKit

/-- The places of the quarters, as the table has them. -/
def qT : List Nat := [0, 4, 8, 12, 1, 5, 9, 13, 2, 6, 10, 14, 3, 7, 11, 15, 0, 5, 10, 15, 1, 6, 11, 12, 2, 7, 8, 13, 3, 4, 9, 14]
def Qs (w : World) : Prop := 0 < w.heap.size ∧ ∀ i, i < 32 → w.cell? ⟨0, i, none⟩ = some (.int .i64 ((qT.getD i 0 : Nat) : Int))
theorem Qs.below {w w' : World} (h : Qs w) (hb : Below w.heap.size w w') : Qs w' := ⟨Nat.lt_of_lt_of_le h.1 hb.size, fun i hi => (hb.cell (p := ⟨0, i, none⟩) h.1).trans (h.2 i hi)⟩
theorem Qs.alloc {w : World} (h : Qs w) (o : Obj) : Qs (w.alloc o) := h.below ((Below.refl _ _).alloc (Nat.le_refl _) o)
theorem Qs.grew {w w' : World} {N : Nat} (h : Qs w) (hg : w.grownBy w' (some N)) (hN : 0 < N) : Qs w' :=
  ⟨Nat.lt_of_lt_of_le h.1 hg.size, fun i hi => (World.cell?_of_block (a := ⟨0, i, none⟩) (hg.block 0 h.1 (fun e => by injection e with e; omega))).trans (h.2 i hi)⟩
/-- The first i quarters of eight. -/
def qrN (ws : List Nat) (i : Nat) : List Nat := if i ≤ 4 then colN ws i else diaN (colN ws 4) (i - 4)
theorem qrN_ok {ws : List Nat} (h : okW ws) (i : Nat) : okW (qrN ws i) := by
  unfold qrN
  split
  · exact colN_ok h _
  · exact diaN_ok (colN_ok h _) _
theorem qrN_succ (ws : List Nat) {i : Nat} (h : i < 8) : qrN ws (i + 1) = quart (qrN ws i) (qT.getD (i * 4) 0) (qT.getD (i * 4 + 1) 0) (qT.getD (i * 4 + 2) 0) (qT.getD (i * 4 + 3) 0) := by
  obtain rfl | rfl | rfl | rfl | rfl | rfl | rfl | rfl : i = 0 ∨ i = 1 ∨ i = 2 ∨ i = 3 ∨ i = 4 ∨ i = 5 ∨ i = 6 ∨ i = 7 := by omega
  all_goals rfl
theorem qT_apart {i : Nat} (h : i < 8) : (qT.getD (i * 4) 0 < 16 ∧ qT.getD (i * 4 + 1) 0 < 16 ∧ qT.getD (i * 4 + 2) 0 < 16 ∧ qT.getD (i * 4 + 3) 0 < 16) ∧ (qT.getD (i * 4) 0 ≠ qT.getD (i * 4 + 1) 0 ∧ qT.getD (i * 4) 0 ≠ qT.getD (i * 4 + 2) 0 ∧ qT.getD (i * 4) 0 ≠ qT.getD (i * 4 + 3) 0 ∧ qT.getD (i * 4 + 1) 0 ≠ qT.getD (i * 4 + 2) 0 ∧ qT.getD (i * 4 + 1) 0 ≠ qT.getD (i * 4 + 3) 0 ∧ qT.getD (i * 4 + 2) 0 ≠ qT.getD (i * 4 + 3) 0) := by
  obtain rfl | rfl | rfl | rfl | rfl | rfl | rfl | rfl : i = 0 ∨ i = 1 ∨ i = 2 ∨ i = 3 ∨ i = 4 ∨ i = 5 ∨ i = 6 ∨ i = 7 := by omega
  all_goals decide
theorem grown_trans {a b c : World} {row : Option Nat} (h : a.grownBy b row) (k : b.grownBy c row) : a.grownBy c row := World.grownBy.trans h k
def QuaRel (G : Nat) (T : TypeId) (ws : List Nat) (w : World) (i : Value) (W : World) : Prop :=
  ∃ j : Nat, i = .int .i64 (j : Int) ∧ j ≤ 8 ∧ Blk W G T ((qrN ws j).map wv) ∧ w.grownBy W (some G)
noncomputable def body_qua : Code := (((Tryd.f16.body.map loopsOf).getD [])[1]?).getD .skip
set_option maxRecDepth 100000 in
set_option maxHeartbeats 1000000 in
theorem qua_loop (c0 c1 c2 c4 c5 c6 c7 c8 c9 c10 c11 c12 c14 c15 c16 c17 c18 c19 c20 c21 c22 c23 c24 c25 c26 c27 c28 c29 c30 c31 c32 c33 c34 c35 c36 c37 c38 c39 c40 c41 c42 c43 c44 c45 c46 c47 : Value) (G : Nat) (T : TypeId) (ws : List Nat) (w : World) (h0 : 0 < G) (ho : Hid (Blk w G T (ws.map wv))) (hok : Hid (okW ws)) (hq : Hid (Qs w)) {Q : Exit → Act → World → Prop}
    (HQ : Hid (∀ (u4 u13 u14 u15 u16 u17 u18 u19 u20 : Value) (wx : World), Hid (Blk wx G T ((diaN (colN ws 4) 4).map wv)) → Hid (w.grownBy wx (some G)) → Q (.exit 2) ⟨List.toArray (c0 :: c1 :: c2 :: (.pointer (some ⟨G, 0, none⟩)) :: u4 :: c5 :: c6 :: c7 :: c8 :: c9 :: c10 :: c11 :: c12 :: u13 :: u14 :: u15 :: u16 :: u17 :: u18 :: u19 :: u20 :: c21 :: c22 :: c23 :: c24 :: c25 :: c26 :: c27 :: c28 :: c29 :: c30 :: c31 :: c32 :: c33 :: c34 :: c35 :: c36 :: c37 :: c38 :: c39 :: c40 :: c41 :: c42 :: c43 :: c44 :: c45 :: c46 :: c47 :: []), []⟩ wx)) :
    (Code.loop body_qua).wp Tryd.prog Q ⟨List.toArray (c0 :: c1 :: c2 :: (.pointer (some ⟨G, 0, none⟩)) :: c4 :: c5 :: c6 :: c7 :: c8 :: c9 :: c10 :: c11 :: c12 :: (.int .i64 0) :: c14 :: c15 :: c16 :: c17 :: c18 :: c19 :: c20 :: c21 :: c22 :: c23 :: c24 :: c25 :: c26 :: c27 :: c28 :: c29 :: c30 :: c31 :: c32 :: c33 :: c34 :: c35 :: c36 :: c37 :: c38 :: c39 :: c40 :: c41 :: c42 :: c43 :: c44 :: c45 :: c46 :: c47 :: []), []⟩ w := by
  unfold body_qua
  conv => arg 2; arg 1; whnf
  go_loopw [13] (fun i wx => QuaRel G T ws w i wx) (fun i _ => 8 - (intOf i).toNat)
  case atStart => exact ⟨0, rfl, by omega, ho.out, ⟨rfl, rfl, rfl, Nat.le_refl _, fun _ _ _ => rfl⟩⟩
  case round =>
    obtain ⟨j, rfl, hj, hb, hg⟩ := hrel
    by_cases hlt : j < 8
    · have hI : (j : Int) < 8 := by omega
      have HQ1 := hq.out.grew hg h0
      have c0 := HQ1.2 (j * 4) (by omega)
      have c1 := HQ1.2 (j * 4 + 1) (by omega)
      have c2 := HQ1.2 (j * 4 + 2) (by omega)
      have c3 := HQ1.2 (j * 4 + 3) (by omega)
      have HS := Lib.hid (qrN_succ ws hlt)
      have hap := qT_apart hlt
      obtain ⟨a, ha⟩ : ∃ q, q = qT.getD (j * 4) 0 := ⟨_, rfl⟩
      obtain ⟨b, hbq⟩ : ∃ q, q = qT.getD (j * 4 + 1) 0 := ⟨_, rfl⟩
      obtain ⟨c, hc⟩ : ∃ q, q = qT.getD (j * 4 + 2) 0 := ⟨_, rfl⟩
      obtain ⟨d, hd⟩ : ∃ q, q = qT.getD (j * 4 + 3) 0 := ⟨_, rfl⟩
      rw [← ha] at c0
      rw [← hbq] at c1
      rw [← hc] at c2
      rw [← hd] at c3
      rw [← ha, ← hbq, ← hc, ← hd] at hap HS
      obtain ⟨⟨a1, a2, a3, a4⟩, d1, d2, d3, d4, d5, d6⟩ := hap
      have HC := Lib.hid (cquart_any G T (qrN ws j) a b c d wr hb (qrN_ok hok.out j) a1 a2 a3 a4 d1 d2 d3 d4 d5 d6)
      have HG := Lib.hid hg
      clear ha hbq hc hd hb hg a1 a2 a3 a4 d1 d2 d3 d4 d5 d6 hj HQ1
      go_wp2_with (fail)
      refine (HC.out).mono ?_
      rintro e w1 ⟨rfl, hb1, hg1⟩
      have KB := Lib.hid hb1
      have KG := Lib.hid (grown_trans HG.out hg1)
      clear hb1 hg1
      go_wp2_with (fail)
      go_roundw
      case rel => exact ⟨j + 1, by go_num, by omega, by rw [HS.out]; exact KB.out, KG.out⟩
      case measure => simp [intOf]; omega
    · obtain rfl : j = 8 := by omega
      have HB := Lib.hid hb
      have HG := Lib.hid hg
      clear hb hg
      go_wp2_with (fail)
      exact HQ.out _ _ _ _ _ _ _ _ _ _ HB HG
end Go.Proofs.YtnpojhmcgohdlaaDoor
