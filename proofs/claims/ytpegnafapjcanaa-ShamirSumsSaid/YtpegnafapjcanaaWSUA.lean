/- The loops of 'ShamirSums' (law 8): a share's bytes; the comparison. Conditions: rows of keys. -/
import Derived.Test.YtpegnafapjcanaaShamC
import Derived.Test.YtpegnafapjcanaaSRefD
import Derived.Test.YtpegnafapjcanaaShLaw
import Derived.Test.YtpegnafapjcanaaPutC
namespace Go.Proofs.Ytpegnafapjcanaa.shamirSums
open Go.RowKit

def xAt (j : Nat) : UInt8 := UInt8.ofNat (7 * j + 1)
/-- The shares of the first i keys. -/
def shA (L : List (List UInt8)) (i : Nat) : List (List UInt8) := (List.range i).map fun j => xAt j :: L.getD j []
def sumK (p q : List UInt8) : List UInt8 := (List.range 32).map fun k => p.getD k 0 ^^^ q.getD k 0
def shC (L M : List (List UInt8)) (i : Nat) : List (List UInt8) := (List.range i).map fun j => xAt j :: sumK (L.getD j []) (M.getD j [])
theorem sumK_length (p q : List UInt8) : (sumK p q).length = 32 := by simp [sumK]
theorem sumK_get (p q : List UInt8) {k : Nat} (hk : k < 32) : (sumK p q).getD k 0 = p.getD k 0 ^^^ q.getD k 0 := range_getD _ _ hk
theorem shA_succ (L : List (List UInt8)) (i : Nat) : shA L (i + 1) = shA L i ++ [xAt i :: L.getD i []] := by
  unfold shA
  rw [List.range_succ, List.map_append]
  rfl
theorem shC_succ (L M : List (List UInt8)) (i : Nat) : shC L M (i + 1) = shC L M i ++ [xAt i :: sumK (L.getD i []) (M.getD i [])] := by
  unfold shC
  rw [List.range_succ, List.map_append]
  rfl
theorem shA_length (L : List (List UInt8)) (i : Nat) : (shA L i).length = i := by simp [shA]
theorem shC_length (L M : List (List UInt8)) (i : Nat) : (shC L M i).length = i := by simp [shC]
theorem shA_get (L : List (List UInt8)) {i j : Nat} (h : j < i) : (shA L i).getD j [] = xAt j :: L.getD j [] := range_getD _ _ h
theorem shC_get (L M : List (List UInt8)) {i j : Nat} (h : j < i) : (shC L M i).getD j [] = xAt j :: sumK (L.getD j []) (M.getD j []) := range_getD _ _ h
theorem xAt_ne {i j : Nat} (hi : i < 8) (hj : j < 8) (h : xAt i = xAt j) : i = j := by
  have h2 := congrArg UInt8.toNat h
  unfold xAt at h2
  rw [UInt8.toNat_ofNat', UInt8.toNat_ofNat'] at h2
  omega
theorem xAt_zero {i : Nat} (hi : i < 8) : xAt i ≠ 0 := fun h => by
  have h2 := congrArg UInt8.toNat h
  unfold xAt at h2
  rw [UInt8.toNat_ofNat', show (0 : UInt8).toNat = 0 from rfl] at h2
  omega
theorem places_x {S : List (List UInt8)} (hl : S.length ≤ 8) (hX : ∀ j, j < S.length → shX (S.getD j []) = xAt j) : placesB S = 0 := by
  refine places_zero (fun ⟨i, hi, h0⟩ => ?_) (fun ⟨q, i, hq, hi, he⟩ => ?_)
  · rw [hX i hi] at h0
    exact xAt_zero (by omega) h0
  · rw [hX q (by omega), hX i hi] at he
    have := xAt_ne (by omega) (by omega) he
    omega
theorem shA_X (L : List (List UInt8)) {i j : Nat} (h : j < i) : shX ((shA L i).getD j []) = xAt j := by rw [shA_get L h]; rfl
theorem shC_X (L M : List (List UInt8)) {i j : Nat} (h : j < i) : shX ((shC L M i).getD j []) = xAt j := by rw [shC_get L M h]; rfl
theorem sums_sum (L M : List (List UInt8)) (n : Nat) {k : Nat} (hk : k < 32) : (combB (shC L M n)).getD k 0 = (combB (shA L n)).getD k 0 ^^^ (combB (shA M n)).getD k 0 := by
  refine combB_sum (by rw [shA_length, shA_length]) (by rw [shC_length, shA_length]) (fun i hi => ?_) (fun i hi q hq => ?_) hk
  · rw [shA_length] at hi
    rw [shA_X L hi, shA_X M hi, shC_X L M hi]
    exact ⟨rfl, rfl⟩
  · rw [shA_length] at hi
    rw [shC_get L M hi, shA_get L hi, shA_get M hi]
    exact sumK_get _ _ hq
def SuiRel (bs : List UInt8) (S : Nat) (w : World) (v : Value) (W : World) : Prop := ∃ k : Nat, v = .int .i64 (k : Int) ∧ k ≤ 32 ∧ Blk W S 31 (putC 33 bs (k + 1)) ∧ Sole w W S
noncomputable def body_sui : Code := (((Try.f7.body.map loopsOf).getD [])[1]?).getD .skip
set_option maxRecDepth 100000 in
set_option maxHeartbeats 2000000 in
theorem sui_loop (c2 c3 c4 c5 c6 c7 c9 c12 c13 c14 c15 c16 c17 c18 c19 c20 c21 c22 c23 c24 c25 c26 c27 c28 c29 c30 c31 c32 c33 c34 c35 c36 c37 c38 c39 c40 c41 c42 c43 c44 c45 c46 c47 c48 c49 c50 c51 c52 c53 c54 c55 c56 c57 c58 c59 c60 c61 c62 c63 c64 c65 c66 c67 c68 c69 c70 c71 c72 c73 c74 c75 c76 c77 c78 c79 c80 c81 c82 c83 c84 c85 c86 c87 c88 c89 c90 c91 c92 c93 c94 c95 c96 c97 c98 c99 c100 c101 c102 c103 c104 c105 c106 c107 c108 c109 c110 c111 c112 c113 c114 c115 c116 c117 c118 c119 c120 c121 c122 c123 c124 c125 c126 c127 c128 c129 c130 c131 : Value) (n m i b o b2 o2 cl cm S : Nat) (p q : List UInt8) (x : UInt8) (w : World) (hi : i < n) (hm : n ≤ m) (hne : Hid (b ≠ S ∧ b2 ≠ S))
    (hc : Hid (∀ k, k < 32 → w.cell? ⟨b, o + i * 32 + k, none⟩ = some (bv (p.getD k 0)))) (hd : Hid (∀ k, k < 32 → w.cell? ⟨b2, o2 + i * 32 + k, none⟩ = some (bv (q.getD k 0)))) (h0 : Hid (Blk w S 31 (putC 33 (x :: sumK p q) 1))) {Q : Exit → Act → World → Prop}
    (HQ : Hid (∀ (u11 u47 u48 u49 u50 u51 u52 u53 u54 u55 u56 u57 u58 u59 u60 u61 u62 u63 u64 u65 u66 : Value) (wx : World), Hid (Blk wx S 31 ((x :: sumK p q).map bv)) → Hid (Sole w wx S) → Q (.exit 2) ⟨List.toArray ((.slice (some ⟨b, o, none⟩) n cl) :: (.slice (some ⟨b2, o2, none⟩) m cm) :: c2 :: c3 :: c4 :: c5 :: c6 :: c7 :: (.int .i64 (i : Int)) :: c9 :: (.pointer (some ⟨S, 0, none⟩)) :: u11 :: c12 :: c13 :: c14 :: c15 :: c16 :: c17 :: c18 :: c19 :: c20 :: c21 :: c22 :: c23 :: c24 :: c25 :: c26 :: c27 :: c28 :: c29 :: c30 :: c31 :: c32 :: c33 :: c34 :: c35 :: c36 :: c37 :: c38 :: c39 :: c40 :: c41 :: c42 :: c43 :: c44 :: c45 :: c46 :: u47 :: u48 :: u49 :: u50 :: u51 :: u52 :: u53 :: u54 :: u55 :: u56 :: u57 :: u58 :: u59 :: u60 :: u61 :: u62 :: u63 :: u64 :: u65 :: u66 :: c67 :: c68 :: c69 :: c70 :: c71 :: c72 :: c73 :: c74 :: c75 :: c76 :: c77 :: c78 :: c79 :: c80 :: c81 :: c82 :: c83 :: c84 :: c85 :: c86 :: c87 :: c88 :: c89 :: c90 :: c91 :: c92 :: c93 :: c94 :: c95 :: c96 :: c97 :: c98 :: c99 :: c100 :: c101 :: c102 :: c103 :: c104 :: c105 :: c106 :: c107 :: c108 :: c109 :: c110 :: c111 :: c112 :: c113 :: c114 :: c115 :: c116 :: c117 :: c118 :: c119 :: c120 :: c121 :: c122 :: c123 :: c124 :: c125 :: c126 :: c127 :: c128 :: c129 :: c130 :: c131 :: []), []⟩ wx)) :
    (Code.loop body_sui).wp Try.prog Q ⟨List.toArray ((.slice (some ⟨b, o, none⟩) n cl) :: (.slice (some ⟨b2, o2, none⟩) m cm) :: c2 :: c3 :: c4 :: c5 :: c6 :: c7 :: (.int .i64 (i : Int)) :: c9 :: (.pointer (some ⟨S, 0, none⟩)) :: (.int .i64 0) :: c12 :: c13 :: c14 :: c15 :: c16 :: c17 :: c18 :: c19 :: c20 :: c21 :: c22 :: c23 :: c24 :: c25 :: c26 :: c27 :: c28 :: c29 :: c30 :: c31 :: c32 :: c33 :: c34 :: c35 :: c36 :: c37 :: c38 :: c39 :: c40 :: c41 :: c42 :: c43 :: c44 :: c45 :: c46 :: c47 :: c48 :: c49 :: c50 :: c51 :: c52 :: c53 :: c54 :: c55 :: c56 :: c57 :: c58 :: c59 :: c60 :: c61 :: c62 :: c63 :: c64 :: c65 :: c66 :: c67 :: c68 :: c69 :: c70 :: c71 :: c72 :: c73 :: c74 :: c75 :: c76 :: c77 :: c78 :: c79 :: c80 :: c81 :: c82 :: c83 :: c84 :: c85 :: c86 :: c87 :: c88 :: c89 :: c90 :: c91 :: c92 :: c93 :: c94 :: c95 :: c96 :: c97 :: c98 :: c99 :: c100 :: c101 :: c102 :: c103 :: c104 :: c105 :: c106 :: c107 :: c108 :: c109 :: c110 :: c111 :: c112 :: c113 :: c114 :: c115 :: c116 :: c117 :: c118 :: c119 :: c120 :: c121 :: c122 :: c123 :: c124 :: c125 :: c126 :: c127 :: c128 :: c129 :: c130 :: c131 :: []), []⟩ w := by
  have iI : (i : Int) < n := by omega
  have iM : (i : Int) < m := by omega
  obtain ⟨bs, hbs⟩ : ∃ bs, bs = x :: sumK p q := ⟨_, rfl⟩
  have HBL : Hid (bs.length = 33) := Lib.hid (by rw [hbs, List.length_cons, sumK_length])
  have HBG : Hid (∀ k, k < 32 → bs[k + 1]? = some (p.getD k 0 ^^^ q.getD k 0)) := Lib.hid fun k hk => by
    rw [hbs, List.getElem?_cons_succ]
    have h := sumK_get p q hk
    rw [List.getD, List.getElem?_eq_getElem (by rw [sumK_length]; exact hk)] at h
    rw [List.getElem?_eq_getElem (by rw [sumK_length]; exact hk)]
    exact congrArg some h
  have HPE : Hid (putC 33 bs 33 = bs.map bv) := Lib.hid (by
    unfold putC
    rw [List.take_of_length_le (by rw [HBL.out]; omega)]
    simp)
  rw [← hbs] at h0 HQ
  clear hbs hi hm
  unfold body_sui
  conv => arg 2; arg 1; whnf
  go_loopw [11] (fun v wx => SuiRel bs S w v wx) (fun v _ => 32 - (intOf v).toNat)
  case atStart => exact ⟨0, rfl, by omega, h0.out, Sole.refl _ _⟩
  case round =>
    obtain ⟨k, rfl, hk, hblk, so⟩ := hrel
    by_cases hlt : k < 32
    · have hI : (k : Int) < 32 := by omega
      obtain ⟨y1, h1⟩ : ∃ y, y = p.getD k 0 := ⟨_, rfl⟩
      obtain ⟨y2, h2⟩ : ∃ y, y = q.getD k 0 := ⟨_, rfl⟩
      have cA : wr.cell? ⟨b, o + i * 32 + k, none⟩ = some (.int .u8 (y1.toNat : Int)) := by
        rw [so.cell (p := ⟨b, o + i * 32 + k, none⟩) hne.out.1, h1]; exact hc.out k hlt
      have cB : wr.cell? ⟨b2, o2 + i * 32 + k, none⟩ = some (.int .u8 (y2.toNat : Int)) := by
        rw [so.cell (p := ⟨b2, o2 + i * 32 + k, none⟩) hne.out.2, h2]; exact hd.out k hlt
      have HN : Hid (bs[k + 1]? = some (y1 ^^^ y2)) := Lib.hid (by rw [HBG.out k hlt, h1, h2])
      have HST : Hid (∀ nq, Blk ((wr.drewN nq).setCell ⟨S, 1 + k, none⟩ (.int .u8 ((y1 ^^^ y2).toNat : Int))) S 31 (putC 33 bs (k + 1 + 1))) := Lib.hid fun nq => by
        rw [Nat.add_comm 1 k]
        have h := (hblk.drewN nq).set (k + 1) (bv (y1 ^^^ y2))
        rw [putC_set (by omega) HN.out] at h
        exact h
      have HSO : Hid (∀ nq, Sole w ((wr.drewN nq).setCell ⟨S, 1 + k, none⟩ (.int .u8 ((y1 ^^^ y2).toNat : Int))) S) := Lib.hid fun nq => so.trans (sole_set_drewN wr S (1 + k) nq _)
      have f6 : ∀ nq, (wr.drewN nq).frozen? ⟨S, 1 + k, none⟩ = false := fun nq => (hblk.drewN nq).free (1 + k)
      obtain ⟨u, hu⟩ : ∃ u, ∀ nq, (wr.drewN nq).cell? ⟨S, 1 + k, none⟩ = some u := by
        refine ⟨(putC 33 bs (k + 1))[k + 1]'?_, fun nq => ?_⟩
        · rw [putC_length (by omega) (by rw [HBL.out]; omega)]; omega
        · rw [Nat.add_comm, (hblk.drewN nq).cell (k + 1)]; exact List.getElem?_eq_getElem _
      have x1 := bx_u8 y1 y2
      have HLT := Lib.hid hlt
      clear h1 h2 hblk so hk hlt
      go_wp2_with (fail)
      refine wp_quiet_tail 16 (by kernel_rfl) (by kernel_rfl) (by kernel_rfl) (by kernel_rfl) (by kernel_rfl) (by kernel_rfl) (by kernel_rfl) (by kernel_rfl) ?_
      simp only [List.take_succ_cons, List.take_zero, List.drop_succ_cons, List.drop_zero]
      repeat (go_big_quiet_step (fail))
      refine wpQuiet_nil ?_
      intro wq hwq
      obtain ⟨nq, rfl⟩ := hwq
      go_wp2_with (fail)
      have hlt := HLT.out
      refine ⟨⟨k + 1, by go_num, by omega, HST.out nq, HSO.out nq⟩, by simp [intOf]; omega⟩
    · obtain rfl : k = 32 := by omega
      have HB : Hid (Blk wr S 31 (bs.map bv)) := Lib.hid (by rw [← HPE.out]; exact hblk)
      have HL := Lib.hid so
      clear hblk so hk hlt
      go_wp2_with (fail)
      exact HQ.out _ _ _ _ _ _ _ _ _ _ _ _ _ _ _ _ _ _ _ _ _ _ HB HL
def SucRel (w : World) (v : Value) (W : World) : Prop := ∃ k m : Nat, v = .int .i64 (k : Int) ∧ k ≤ 32 ∧ W = w.drewN m
noncomputable def body_suc : Code := (((Try.f7.body.map loopsOf).getD [])[2]?).getD .skip
set_option maxRecDepth 100000 in
set_option maxHeartbeats 2000000 in
theorem suc_loop (c0 c1 c2 c3 c4 c5 c6 c7 c8 c9 c10 c11 c13 c15 c17 c19 c20 c21 c22 c23 c24 c25 c26 c27 c28 c29 c30 c31 c32 c33 c34 c35 c36 c37 c38 c39 c40 c41 c42 c43 c44 c45 c46 c47 c48 c49 c50 c51 c52 c53 c54 c55 c56 c57 c58 c59 c60 c61 c62 c63 c64 c65 c66 c67 c68 c69 c70 c71 c72 c73 c74 c75 c76 c77 c78 c79 c80 c81 c82 c83 c84 c85 c86 c87 c88 c89 c90 c91 c92 c93 c94 c95 c96 c97 c98 c99 c100 c101 c102 c103 c104 c105 c106 c107 c108 c109 c110 c111 c112 c113 c114 c115 c116 c117 c118 c119 c120 c121 c122 c123 c124 c125 c126 c127 c128 c129 c130 c131 : Value) (X Y Z : Nat) (xs ys zs : List UInt8) (w : World) (hl : Hid (xs.length = 32 ∧ ys.length = 32 ∧ zs.length = 32)) (hs : Hid (∀ k, k < 32 → zs.getD k 0 = xs.getD k 0 ^^^ ys.getD k 0))
    (hX : Hid (Blk w X 23 (xs.map bv))) (hY : Hid (Blk w Y 23 (ys.map bv))) (hZ : Hid (Blk w Z 23 (zs.map bv))) {Q : Exit → Act → World → Prop}
    (HQ : Hid (∀ (u4 u18 u104 u105 u106 u107 u108 u109 u110 u111 u112 u113 u114 u115 u116 u117 u118 : Value) (m : Nat), Q (.exit 4) ⟨List.toArray (c0 :: c1 :: c2 :: c3 :: u4 :: c5 :: c6 :: c7 :: c8 :: c9 :: c10 :: c11 :: (.pointer (some ⟨X, 0, none⟩)) :: c13 :: (.pointer (some ⟨Y, 0, none⟩)) :: c15 :: (.pointer (some ⟨Z, 0, none⟩)) :: c17 :: u18 :: c19 :: c20 :: c21 :: c22 :: c23 :: c24 :: c25 :: c26 :: c27 :: c28 :: c29 :: c30 :: c31 :: c32 :: c33 :: c34 :: c35 :: c36 :: c37 :: c38 :: c39 :: c40 :: c41 :: c42 :: c43 :: c44 :: c45 :: c46 :: c47 :: c48 :: c49 :: c50 :: c51 :: c52 :: c53 :: c54 :: c55 :: c56 :: c57 :: c58 :: c59 :: c60 :: c61 :: c62 :: c63 :: c64 :: c65 :: c66 :: c67 :: c68 :: c69 :: c70 :: c71 :: c72 :: c73 :: c74 :: c75 :: c76 :: c77 :: c78 :: c79 :: c80 :: c81 :: c82 :: c83 :: c84 :: c85 :: c86 :: c87 :: c88 :: c89 :: c90 :: c91 :: c92 :: c93 :: c94 :: c95 :: c96 :: c97 :: c98 :: c99 :: c100 :: c101 :: c102 :: c103 :: u104 :: u105 :: u106 :: u107 :: u108 :: u109 :: u110 :: u111 :: u112 :: u113 :: u114 :: u115 :: u116 :: u117 :: u118 :: c119 :: c120 :: c121 :: c122 :: c123 :: c124 :: c125 :: c126 :: c127 :: c128 :: c129 :: c130 :: c131 :: []), []⟩ (w.drewN m))) :
    (Code.loop body_suc).wp Try.prog Q ⟨List.toArray (c0 :: c1 :: c2 :: c3 :: c4 :: c5 :: c6 :: c7 :: c8 :: c9 :: c10 :: c11 :: (.pointer (some ⟨X, 0, none⟩)) :: c13 :: (.pointer (some ⟨Y, 0, none⟩)) :: c15 :: (.pointer (some ⟨Z, 0, none⟩)) :: c17 :: (.int .i64 0) :: c19 :: c20 :: c21 :: c22 :: c23 :: c24 :: c25 :: c26 :: c27 :: c28 :: c29 :: c30 :: c31 :: c32 :: c33 :: c34 :: c35 :: c36 :: c37 :: c38 :: c39 :: c40 :: c41 :: c42 :: c43 :: c44 :: c45 :: c46 :: c47 :: c48 :: c49 :: c50 :: c51 :: c52 :: c53 :: c54 :: c55 :: c56 :: c57 :: c58 :: c59 :: c60 :: c61 :: c62 :: c63 :: c64 :: c65 :: c66 :: c67 :: c68 :: c69 :: c70 :: c71 :: c72 :: c73 :: c74 :: c75 :: c76 :: c77 :: c78 :: c79 :: c80 :: c81 :: c82 :: c83 :: c84 :: c85 :: c86 :: c87 :: c88 :: c89 :: c90 :: c91 :: c92 :: c93 :: c94 :: c95 :: c96 :: c97 :: c98 :: c99 :: c100 :: c101 :: c102 :: c103 :: c104 :: c105 :: c106 :: c107 :: c108 :: c109 :: c110 :: c111 :: c112 :: c113 :: c114 :: c115 :: c116 :: c117 :: c118 :: c119 :: c120 :: c121 :: c122 :: c123 :: c124 :: c125 :: c126 :: c127 :: c128 :: c129 :: c130 :: c131 :: []), []⟩ w := by
  unfold body_suc
  conv => arg 2; arg 1; whnf
  go_loopw [18] (fun v wx => SucRel w v wx) (fun v _ => 32 - (intOf v).toNat)
  case atStart => exact ⟨0, 0, rfl, by omega, rfl⟩
  case round =>
    obtain ⟨k, m0, rfl, hk, rfl⟩ := hrel
    by_cases hlt : k < 32
    · have hI : (k : Int) < 32 := by omega
      obtain ⟨y1, h1⟩ : ∃ y, y = xs.getD k 0 := ⟨_, rfl⟩
      obtain ⟨y2, h2⟩ : ∃ y, y = ys.getD k 0 := ⟨_, rfl⟩
      have at32 : ∀ {B : Nat} {ws : List UInt8}, Blk w B 23 (ws.map bv) → ws.length = 32 → ∀ m, (w.drewN m).cell? ⟨B, k, none⟩ = some (.int .u8 ((ws.getD k 0).toNat : Int)) := fun h hw m => by
        rw [(h.drewN m).cell, List.getElem?_map, List.getElem?_eq_getElem (by omega), List.getD, List.getElem?_eq_getElem (by omega)]
        rfl
      have cX : ∀ m, (w.drewN m).cell? ⟨X, k, none⟩ = some (.int .u8 (y1.toNat : Int)) := by rw [h1]; exact at32 hX.out hl.out.1
      have cY : ∀ m, (w.drewN m).cell? ⟨Y, k, none⟩ = some (.int .u8 (y2.toNat : Int)) := by rw [h2]; exact at32 hY.out hl.out.2.1
      have cZ : ∀ m, (w.drewN m).cell? ⟨Z, k, none⟩ = some (.int .u8 ((y1 ^^^ y2).toNat : Int)) := by rw [h1, h2, ← hs.out k hlt]; exact at32 hZ.out hl.out.2.2
      have x1 := bx_u8 y1 y2
      have HLT := Lib.hid hlt
      clear h1 h2 at32 hk hlt
      go_wp2_with (fail)
      go_quiet (fail)
      go_wp2_with (fail)
      have hlt := HLT.out
      refine ⟨⟨k + 1, _, by go_num, by omega, rfl⟩, by simp [intOf]; omega⟩
    · obtain rfl : k = 32 := by omega
      clear hk hlt
      go_wp2_with (fail)
      exact HQ.out _ _ _ _ _ _ _ _ _ _ _ _ _ _ _ _ _ _
end Go.Proofs.Ytpegnafapjcanaa.shamirSums
