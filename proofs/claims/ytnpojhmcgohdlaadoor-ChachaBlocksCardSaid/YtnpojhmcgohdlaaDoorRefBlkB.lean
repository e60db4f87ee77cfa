/- The fourth reference's Block: the loops over the columns and the diagonals. Condition: sixteen words that fit. -/
import Derived.Test.YtnpojhmcgohdlaaDoorRefQuart
namespace Go.Proofs.YtnpojhmcgohdlaaDoor
open Go.RowKit

theorem quarter_k (B G cap : Nat) (ws : List Nat) (a b c d : Nat) (X Y Z U : Int) (hX : X = (a : Int)) (hY : Y = (b : Int)) (hZ : Z = (c : Int)) (hU : U = (d : Int)) (w : World) (ho : Q4 B G cap ws w) (hok : okW ws) (ha : a < 16) (hb : b < 16) (hc : c < 16) (hd : d < 16) :
    Calls Tryd.prog 19 #[.slice (some ⟨G, 0, none⟩) 16 cap, .int .i64 X, .int .i64 Y, .int .i64 Z, .int .i64 U] w fun e w' => e = .returned (.tuple #[]) ∧ Q4 B G cap (quart ws a b c d) w' ∧ Sole w w' G := by
  subst hX hY hZ hU
  exact quarter_any B G cap ws a b c d w ho hok ha hb hc hd
def ColRel (B G cap : Nat) (f : Nat → List Nat) (w : World) (i : Value) (W : World) : Prop :=
  ∃ j : Nat, i = .int .i64 (j : Int) ∧ j ≤ 4 ∧ Q4 B G cap (f j) W ∧ Sole w W G
noncomputable def body_col : Code := (((Tryd.f9.body.map loopsOf).getD [])[2]?).getD .skip
set_option maxRecDepth 100000 in
set_option maxHeartbeats 1000000 in
theorem col_loop (c0 c1 c2 c3 c4 c5 c6 c7 c8 c10 c11 c13 c14 c15 c16 c17 c18 c19 c20 c21 c22 c23 c24 c25 c26 c27 c28 c29 c30 c31 c32 c33 c34 c35 c36 c37 c38 c39 c40 c41 c42 c43 c44 c45 c46 c47 c48 c49 c50 c51 c52 c53 c54 c55 c56 c57 c58 c59 c60 c61 c62 c63 c64 c65 c66 c67 c68 c69 c70 c71 c72 c73 c74 c75 c76 c77 c78 c79 c80 c81 c82 c83 c84 c85 c86 c87 c88 c89 c90 c91 c92 c93 c94 c95 c96 c97 c98 c99 c100 c101 c102 : Value) (B G cap : Nat) (ws : List Nat) (w : World) (ho : Hid (Q4 B G cap ws w)) (hok : Hid (okW ws)) {Q : Exit → Act → World → Prop}
    (HQ : Hid (∀ (u12 u53 u54 u55 u56 u57 u58 u59 u60 u61 u62 u63 u64 u65 : Value) (wx : World), Hid (Q4 B G cap (colN ws 4) wx) → Hid (Sole w wx G) → Q (.exit 4) ⟨List.toArray (c0 :: c1 :: c2 :: c3 :: c4 :: c5 :: c6 :: c7 :: c8 :: (.slice (some ⟨G, 0, none⟩) 16 cap) :: c10 :: c11 :: u12 :: c13 :: c14 :: c15 :: c16 :: c17 :: c18 :: c19 :: c20 :: c21 :: c22 :: c23 :: c24 :: c25 :: c26 :: c27 :: c28 :: c29 :: c30 :: c31 :: c32 :: c33 :: c34 :: c35 :: c36 :: c37 :: c38 :: c39 :: c40 :: c41 :: c42 :: c43 :: c44 :: c45 :: c46 :: c47 :: c48 :: c49 :: c50 :: c51 :: c52 :: u53 :: u54 :: u55 :: u56 :: u57 :: u58 :: u59 :: u60 :: u61 :: u62 :: u63 :: u64 :: u65 :: c66 :: c67 :: c68 :: c69 :: c70 :: c71 :: c72 :: c73 :: c74 :: c75 :: c76 :: c77 :: c78 :: c79 :: c80 :: c81 :: c82 :: c83 :: c84 :: c85 :: c86 :: c87 :: c88 :: c89 :: c90 :: c91 :: c92 :: c93 :: c94 :: c95 :: c96 :: c97 :: c98 :: c99 :: c100 :: c101 :: c102 :: []), []⟩ wx)) :
    (Code.loop body_col).wp Tryd.prog Q ⟨List.toArray (c0 :: c1 :: c2 :: c3 :: c4 :: c5 :: c6 :: c7 :: c8 :: (.slice (some ⟨G, 0, none⟩) 16 cap) :: c10 :: c11 :: (.int .i64 0) :: c13 :: c14 :: c15 :: c16 :: c17 :: c18 :: c19 :: c20 :: c21 :: c22 :: c23 :: c24 :: c25 :: c26 :: c27 :: c28 :: c29 :: c30 :: c31 :: c32 :: c33 :: c34 :: c35 :: c36 :: c37 :: c38 :: c39 :: c40 :: c41 :: c42 :: c43 :: c44 :: c45 :: c46 :: c47 :: c48 :: c49 :: c50 :: c51 :: c52 :: c53 :: c54 :: c55 :: c56 :: c57 :: c58 :: c59 :: c60 :: c61 :: c62 :: c63 :: c64 :: c65 :: c66 :: c67 :: c68 :: c69 :: c70 :: c71 :: c72 :: c73 :: c74 :: c75 :: c76 :: c77 :: c78 :: c79 :: c80 :: c81 :: c82 :: c83 :: c84 :: c85 :: c86 :: c87 :: c88 :: c89 :: c90 :: c91 :: c92 :: c93 :: c94 :: c95 :: c96 :: c97 :: c98 :: c99 :: c100 :: c101 :: c102 :: []), []⟩ w := by
  unfold body_col
  conv => arg 2; arg 1; whnf
  go_loopw [12] (fun i wx => ColRel B G cap (colN ws) w i wx) (fun i _ => 4 - (intOf i).toNat)
  case atStart => exact ⟨0, rfl, by omega, ho.out, Sole.refl _ _⟩
  case round =>
    obtain ⟨j, rfl, hj, q4, so⟩ := hrel
    have H4 := Lib.hid q4
    have HSO := Lib.hid so
    clear q4 so
    by_cases hlt : j < 4
    · have hI : (j : Int) < 4 := by omega
      have HC := Lib.hid (fun W (hW : Q4 B G cap (colN ws j) W) => quarter_k B G cap (colN ws j) j (4 + j) (8 + j) (12 + j) j (4 + (j : Int)) (8 + (j : Int)) (12 + (j : Int)) rfl (by omega) (by omega) (by omega) W hW (colN_ok hok.out j) (by omega) (by omega) (by omega) (by omega))
      clear hj
      go_wp2_with (fail)
      refine (HC.out _ H4.out).mono ?_
      rintro e w1 ⟨rfl, h4, hs⟩
      have K4 := Lib.hid h4
      have KS := Lib.hid (HSO.out.trans hs)
      clear h4 hs
      go_wp2_with (fail)
      go_roundw
      case rel => exact ⟨j + 1, by go_num, by omega, K4.out, KS.out⟩
      case measure => simp [intOf]; omega
    · obtain rfl : j = 4 := by omega
      go_wp2_with (fail)
      exact HQ.out _ _ _ _ _ _ _ _ _ _ _ _ _ _ _ H4 HSO
noncomputable def body_dia : Code := (((Tryd.f9.body.map loopsOf).getD [])[3]?).getD .skip
set_option maxRecDepth 100000 in
set_option maxHeartbeats 1000000 in
theorem dia_loop (c0 c1 c2 c3 c4 c5 c6 c7 c8 c10 c11 c12 c14 c15 c16 c17 c18 c19 c20 c21 c22 c23 c24 c25 c26 c27 c28 c29 c30 c31 c32 c33 c34 c35 c36 c37 c38 c39 c40 c41 c42 c43 c44 c45 c46 c47 c48 c49 c50 c51 c52 c53 c54 c55 c56 c57 c58 c59 c60 c61 c62 c63 c64 c65 c66 c67 c68 c69 c70 c71 c72 c73 c74 c75 c76 c77 c78 c79 c80 c81 c82 c83 c84 c85 c86 c87 c88 c89 c90 c91 c92 c93 c94 c95 c96 c97 c98 c99 c100 c101 c102 : Value) (B G cap : Nat) (ws : List Nat) (w : World) (ho : Hid (Q4 B G cap ws w)) (hok : Hid (okW ws)) {Q : Exit → Act → World → Prop}
    (HQ : Hid (∀ (u13 u66 u67 u68 u69 u70 u71 u72 u73 u74 u75 u76 u77 u78 u79 u80 u81 u82 u83 u84 : Value) (wx : World), Hid (Q4 B G cap (diaN ws 4) wx) → Hid (Sole w wx G) → Q (.exit 6) ⟨List.toArray (c0 :: c1 :: c2 :: c3 :: c4 :: c5 :: c6 :: c7 :: c8 :: (.slice (some ⟨G, 0, none⟩) 16 cap) :: c10 :: c11 :: c12 :: u13 :: c14 :: c15 :: c16 :: c17 :: c18 :: c19 :: c20 :: c21 :: c22 :: c23 :: c24 :: c25 :: c26 :: c27 :: c28 :: c29 :: c30 :: c31 :: c32 :: c33 :: c34 :: c35 :: c36 :: c37 :: c38 :: c39 :: c40 :: c41 :: c42 :: c43 :: c44 :: c45 :: c46 :: c47 :: c48 :: c49 :: c50 :: c51 :: c52 :: c53 :: c54 :: c55 :: c56 :: c57 :: c58 :: c59 :: c60 :: c61 :: c62 :: c63 :: c64 :: c65 :: u66 :: u67 :: u68 :: u69 :: u70 :: u71 :: u72 :: u73 :: u74 :: u75 :: u76 :: u77 :: u78 :: u79 :: u80 :: u81 :: u82 :: u83 :: u84 :: c85 :: c86 :: c87 :: c88 :: c89 :: c90 :: c91 :: c92 :: c93 :: c94 :: c95 :: c96 :: c97 :: c98 :: c99 :: c100 :: c101 :: c102 :: []), []⟩ wx)) :
    (Code.loop body_dia).wp Tryd.prog Q ⟨List.toArray (c0 :: c1 :: c2 :: c3 :: c4 :: c5 :: c6 :: c7 :: c8 :: (.slice (some ⟨G, 0, none⟩) 16 cap) :: c10 :: c11 :: c12 :: (.int .i64 0) :: c14 :: c15 :: c16 :: c17 :: c18 :: c19 :: c20 :: c21 :: c22 :: c23 :: c24 :: c25 :: c26 :: c27 :: c28 :: c29 :: c30 :: c31 :: c32 :: c33 :: c34 :: c35 :: c36 :: c37 :: c38 :: c39 :: c40 :: c41 :: c42 :: c43 :: c44 :: c45 :: c46 :: c47 :: c48 :: c49 :: c50 :: c51 :: c52 :: c53 :: c54 :: c55 :: c56 :: c57 :: c58 :: c59 :: c60 :: c61 :: c62 :: c63 :: c64 :: c65 :: c66 :: c67 :: c68 :: c69 :: c70 :: c71 :: c72 :: c73 :: c74 :: c75 :: c76 :: c77 :: c78 :: c79 :: c80 :: c81 :: c82 :: c83 :: c84 :: c85 :: c86 :: c87 :: c88 :: c89 :: c90 :: c91 :: c92 :: c93 :: c94 :: c95 :: c96 :: c97 :: c98 :: c99 :: c100 :: c101 :: c102 :: []), []⟩ w := by
  unfold body_dia
  conv => arg 2; arg 1; whnf
  go_loopw [13] (fun i wx => ColRel B G cap (diaN ws) w i wx) (fun i _ => 4 - (intOf i).toNat)
  case atStart => exact ⟨0, rfl, by omega, ho.out, Sole.refl _ _⟩
  case round =>
    obtain ⟨j, rfl, hj, q4, so⟩ := hrel
    have H4 := Lib.hid q4
    have HSO := Lib.hid so
    clear q4 so
    by_cases hlt : j < 4
    · have hI : (j : Int) < 4 := by omega
      have HC := Lib.hid (fun W (hW : Q4 B G cap (diaN ws j) W) => quarter_k B G cap (diaN ws j) j (4 + (j + 1) % 4) (8 + (j + 2) % 4) (12 + (j + 3) % 4) j (4 + ((j : Int) + 1) % 4) (8 + ((j : Int) + 2) % 4) (12 + ((j : Int) + 3) % 4) rfl (by omega) (by omega) (by omega) W hW (diaN_ok hok.out j) (by omega) (by omega) (by omega) (by omega))
      clear hj
      go_wp2_with (fail)
      refine (HC.out _ H4.out).mono ?_
      rintro e w1 ⟨rfl, h4, hs⟩
      have K4 := Lib.hid h4
      have KS := Lib.hid (HSO.out.trans hs)
      clear h4 hs
      go_wp2_with (fail)
      go_roundw
      case rel => exact ⟨j + 1, by go_num, by omega, K4.out, KS.out⟩
      case measure => simp [intOf]; omega
    · obtain rfl : j = 4 := by omega
      go_wp2_with (fail)
      exact HQ.out _ _ _ _ _ _ _ _ _ _ _ _ _ _ _ _ _ _ _ _ _ H4 HSO
end Go.Proofs.YtnpojhmcgohdlaaDoor
