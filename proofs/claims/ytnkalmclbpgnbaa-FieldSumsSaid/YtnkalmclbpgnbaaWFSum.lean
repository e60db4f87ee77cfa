/- The walk of 'FieldSums' (law 7): the value of a sum of polynomials is the sum of their values; that of one put a place higher is the element times it. Premises: the contracts of field's Build, Mul and Eval. -/
import Derived.Test.YtnkalmclbpgnbaaFieldC
import Derived.Test.YtnkalmclbpgnbaaFEval
import Derived.Test.YtnkalmclbpgnbaaUngd
import Derived.Test.YtnkalmclbpgnbaaW32
import Derived.Deep.Cut
namespace Go.Proofs.Ytnkalmclbpgnbaa.fieldSums
open Go.RowKit

/-- The sum's first k places. -/
def FsmRel (w : World) (B : Nat) (l m : List UInt8) (v i : Value) (wr : World) : Prop := ∃ k : Nat, i = .int .i64 (k : Int) ∧ k ≤ max l.length m.length ∧ wr.ownsRow B 5 1 v k (((gsum l m).take k).map bv) ∧ Below B w wr
theorem gsum_take {l m : List UInt8} {k : Nat} (h : k < max l.length m.length) : ((gsum l m).take (k + 1)).map bv = ((gsum l m).take k).map bv ++ [bv (l.getD k 0 ^^^ m.getD k 0)] := by
  have hl : k < (gsum l m).length := by rw [gsum_length]; exact h
  have hg := gsum_get l m k
  rw [List.getD, List.getElem?_eq_getElem hl] at hg
  rw [List.take_succ_eq_append_getElem hl, List.map_append, ← hg]
  rfl
theorem getD_at {l : List UInt8} {k : Nat} (h : k < l.length) : l.getD k 0 = l[k] := by
  rw [List.getD, List.getElem?_eq_getElem h]
  rfl
theorem getD_none {l : List UInt8} {k : Nat} (h : ¬ k < l.length) : l.getD k 0 = 0 := by
  rw [List.getD, List.getElem?_eq_none (by omega)]
  rfl
noncomputable def body_fsm : Code := (((Try.f7.body.map loopsOf).getD [])[0]?).getD .skip
set_option maxRecDepth 100000 in
set_option maxHeartbeats 2000000 in
theorem fsm_loop (c2 c3 c4 c5 c6 c7 c10 c11 c12 c13 c14 c15 c16 c17 c18 c19 c20 c21 c22 c23 c24 c25 c26 c27 c28 c29 c30 c31 c32 c33 c34 c35 c36 c37 c38 c39 c40 c41 c42 c43 c44 c45 c46 c47 c48 c49 c50 c51 c52 c53 c54 c55 c56 c57 c58 c59 c60 c61 c62 c63 c64 c65 c66 c67 c68 c69 c70 c71 c72 c73 c74 c75 c76 c77 c78 c79 c80 c81 c82 c83 c84 c85 c86 c87 : Value) (l m : List UInt8) (A0 A1 : Option Addr) (n0 n1 : Nat) (w : World) (hl : (l.length : Int) ≤ 40) (hm : (m.length : Int) ≤ 40) (hr0 : Hid (Rd w (.slice A0 l.length n0) l)) (hr1 : Hid (Rd w (.slice A1 m.length n1) m)) {Q : Exit → Act → World → Prop}
    (HQ : Hid (∀ (u9 u10 u21 u22 u23 u24 u25 u26 u27 u28 u29 u30 u31 u32 u33 u34 u35 u36 u37 u38 u39 u40 u41 u42 u43 u44 u45 u46 u47 u48 u49 u50 u51 u52 u53 u54 v : Value) (wx : World), Hid (wx.ownsRow w.heap.size 5 1 v (gsum l m).length ((gsum l m).map bv)) → Hid (Below w.heap.size w wx) → Q (.exit 0) ⟨List.toArray ((.slice A0 l.length n0) :: (.slice A1 m.length n1) :: c2 :: c3 :: c4 :: c5 :: c6 :: c7 :: v :: u9 :: u10 :: c11 :: c12 :: c13 :: c14 :: c15 :: c16 :: c17 :: c18 :: c19 :: c20 :: u21 :: u22 :: u23 :: u24 :: u25 :: u26 :: u27 :: u28 :: u29 :: u30 :: u31 :: u32 :: u33 :: u34 :: u35 :: u36 :: u37 :: u38 :: u39 :: u40 :: u41 :: u42 :: u43 :: u44 :: u45 :: u46 :: u47 :: u48 :: u49 :: u50 :: u51 :: u52 :: u53 :: u54 :: c55 :: c56 :: c57 :: c58 :: c59 :: c60 :: c61 :: c62 :: c63 :: c64 :: c65 :: c66 :: c67 :: c68 :: c69 :: c70 :: c71 :: c72 :: c73 :: c74 :: c75 :: c76 :: c77 :: c78 :: c79 :: c80 :: c81 :: c82 :: c83 :: c84 :: c85 :: c86 :: c87 :: []), []⟩ wx)) :
    (Code.loop body_fsm).wp Try.prog Q ⟨List.toArray ((.slice A0 l.length n0) :: (.slice A1 m.length n1) :: c2 :: c3 :: c4 :: c5 :: c6 :: c7 :: (.slice none 0 0) :: (.int .i64 0) :: c10 :: c11 :: c12 :: c13 :: c14 :: c15 :: c16 :: c17 :: c18 :: c19 :: c20 :: c21 :: c22 :: c23 :: c24 :: c25 :: c26 :: c27 :: c28 :: c29 :: c30 :: c31 :: c32 :: c33 :: c34 :: c35 :: c36 :: c37 :: c38 :: c39 :: c40 :: c41 :: c42 :: c43 :: c44 :: c45 :: c46 :: c47 :: c48 :: c49 :: c50 :: c51 :: c52 :: c53 :: c54 :: c55 :: c56 :: c57 :: c58 :: c59 :: c60 :: c61 :: c62 :: c63 :: c64 :: c65 :: c66 :: c67 :: c68 :: c69 :: c70 :: c71 :: c72 :: c73 :: c74 :: c75 :: c76 :: c77 :: c78 :: c79 :: c80 :: c81 :: c82 :: c83 :: c84 :: c85 :: c86 :: c87 :: []), []⟩ w := by
  obtain ⟨i0, hi, hz0, hz1, hz2⟩ := info_parts info_u8
  unfold body_fsm
  conv => arg 2; arg 1; whnf
  go_loopw [8, 9] (fun v i wr => FsmRel w w.heap.size l m v i wr) (fun _ i _ => max l.length m.length - (intOf i).toNat)
  case atStart => exact ⟨0, rfl, by omega, World.ownsRow_nil _ _ _ _, Below.refl _ _⟩
  case round =>
    obtain ⟨k, rfl, hk, own, bl⟩ := hrel
    have hBs : w.heap.size ≤ wr.heap.size := bl.size
    have HO := Lib.hid own
    have HL := Lib.hid bl
    have R0 := hr0.out.below bl
    have R1 := hr1.out.below bl
    obtain ⟨A, c, rfl⟩ := own_shape own
    have hk40 : k ≤ 40 := by omega
    have HK40 := Lib.hid hk40
    have HK := Lib.hid hk
    by_cases h1 : k < l.length
    · have h1I : (k : Int) < l.length := by omega
      obtain ⟨_, _, e1, _, _, q1⟩ := R0.form
      obtain ⟨b1, o1, r1, _, c1⟩ := q1 (by omega)
      simp only [Value.slice.injEq] at e1
      obtain ⟨e1, -, -⟩ := e1
      rw [← e1] at r1
      subst r1
      obtain ⟨y, hy⟩ : ∃ y, y = l[k].toNat := ⟨_, rfl⟩
      have k1 : wr.cell? ⟨b1, o1 + k, none⟩ = some (.int .u8 (y : Int)) := by rw [hy]; exact c1 k h1
      by_cases h2 : k < m.length
      · have h2I : (k : Int) < m.length := by omega
        obtain ⟨_, _, e2, _, _, q2⟩ := R1.form
        obtain ⟨b2, o2, r2, _, c2⟩ := q2 (by omega)
        simp only [Value.slice.injEq] at e2
        obtain ⟨e2, -, -⟩ := e2
        rw [← e2] at r2
        subst r2
        obtain ⟨z, hz⟩ : ∃ z, z = m[k].toNat := ⟨_, rfl⟩
        have k2 : wr.cell? ⟨b2, o2 + k, none⟩ = some (.int .u8 (z : Int)) := by rw [hz]; exact c2 k h2
        have HN : Hid (((gsum l m).take (k + 1)).map bv = ((gsum l m).take k).map bv ++ [.int .u8 (bits .xor .u8 (y : Int) (z : Int))]) := Lib.hid (by
          rw [gsum_take (by omega), getD_at h1, getD_at h2, hy, hz, xor_u8])
        clear hy hz c1 c2 e1 e2 q1 q2 R0 R1 own bl hk h1 h2
        go_wp2_with (at_builtin
                     refine wpList_append_one _ _ _ rfl _ _ _ rfl w.heap.size 5 i0 _ 1 Try.underlying30 hi hz0 hz1 hz2 rfl rfl _ _ _ rfl HO.out rfl ?_ ?_ ?_ ?_
                     · unfold maxLen; have := HK40.out; omega
                     · have := HK40.out; omega
                     · exact hBs
                     intro v3 w3 own3 b3
                     have OW3 := Lib.hid own3
                     have BL3 : Hid (Below w.heap.size w w3) := Lib.hid (HL.out.trans b3)
                     clear own3 b3)
        go_roundw
        case rel => exact ⟨k + 1, by go_num, by omega, by rw [HN.out]; exact OW3.out, BL3.out⟩
        case measure => simp [intOf]; omega
      · have h2I : (m.length : Int) ≤ k := by omega
        have HN : Hid (((gsum l m).take (k + 1)).map bv = ((gsum l m).take k).map bv ++ [.int .u8 (y : Int)]) := Lib.hid (by
          rw [gsum_take (by omega), getD_at h1, getD_none h2, hy, bx_zero]
          rfl)
        clear hy c1 e1 q1 R0 R1 own bl hk
        go_wp2_with (at_builtin
                     refine wpList_append_one _ _ _ rfl _ _ _ rfl w.heap.size 5 i0 _ 1 Try.underlying30 hi hz0 hz1 hz2 rfl rfl _ _ _ rfl HO.out rfl ?_ ?_ ?_ ?_
                     · unfold maxLen; have := HK40.out; omega
                     · have := HK40.out; omega
                     · exact hBs
                     intro v3 w3 own3 b3
                     have OW3 := Lib.hid own3
                     have BL3 : Hid (Below w.heap.size w w3) := Lib.hid (HL.out.trans b3)
                     clear own3 b3)
        go_roundw
        case rel => exact ⟨k + 1, by go_num, by omega, by rw [HN.out]; exact OW3.out, BL3.out⟩
        case measure => simp [intOf]; omega
    · have h1I : (l.length : Int) ≤ k := by omega
      by_cases h2 : k < m.length
      · have h2I : (k : Int) < m.length := by omega
        obtain ⟨_, _, e2, _, _, q2⟩ := R1.form
        obtain ⟨b2, o2, r2, _, c2⟩ := q2 (by omega)
        simp only [Value.slice.injEq] at e2
        obtain ⟨e2, -, -⟩ := e2
        rw [← e2] at r2
        subst r2
        obtain ⟨z, hz⟩ : ∃ z, z = m[k].toNat := ⟨_, rfl⟩
        have k2 : wr.cell? ⟨b2, o2 + k, none⟩ = some (.int .u8 (z : Int)) := by rw [hz]; exact c2 k h2
        have HX : bits .xor .u8 0 (z : Int) = (z : Int) := by
          have h := u8_xor_nat 0 z (by decide) (by rw [hz]; exact UInt8.toNat_lt _)
          rw [Nat.zero_xor] at h
          exact h
        have HN : Hid (((gsum l m).take (k + 1)).map bv = ((gsum l m).take k).map bv ++ [.int .u8 (z : Int)]) := Lib.hid (by
          rw [gsum_take (by omega), getD_none h1, getD_at h2, hz, zero_bx]
          rfl)
        clear hz c2 e2 q2 R0 R1 own bl hk
        go_wp2_with (at_builtin
                     refine wpList_append_one _ _ _ rfl _ _ _ rfl w.heap.size 5 i0 _ 1 Try.underlying30 hi hz0 hz1 hz2 rfl rfl _ _ _ rfl HO.out rfl ?_ ?_ ?_ ?_
                     · unfold maxLen; have := HK40.out; omega
                     · have := HK40.out; omega
                     · exact hBs
                     intro v3 w3 own3 b3
                     have OW3 := Lib.hid own3
                     have BL3 : Hid (Below w.heap.size w w3) := Lib.hid (HL.out.trans b3)
                     clear own3 b3)
        go_roundw
        case rel => exact ⟨k + 1, by go_num, by omega, by rw [HN.out]; exact OW3.out, BL3.out⟩
        case measure => simp [intOf]; omega
      · have h2I : (m.length : Int) ≤ k := by omega
        have HOX : Hid (wr.ownsRow w.heap.size 5 1 (.slice A k c) (gsum l m).length ((gsum l m).map bv)) := Lib.hid (by
          have e : k = (gsum l m).length := by rw [gsum_length]; omega
          have h := HO.out
          rw [List.take_of_length_le (by omega), e] at h
          rw [e]
          exact h)
        clear R0 R1 own bl hk
        go_wp2_with (fail)
        exact HQ.out _ _ _ _ _ _ _ _ _ _ _ _ _ _ _ _ _ _ _ _ _ _ _ _ _ _ _ _ _ _ _ _ _ _ _ _ _ _ HOX HL
set_option maxRecDepth 100000 in
set_option maxHeartbeats 4000000 in
theorem walkC (HB : BuildC) (HM : MulC) (HE : EvalC) (v0 : Value) (l : List UInt8) (v1 : Value) (m : List UInt8) (a2 : Int) (w : World) (k0 : Rd w v0 l) (k1 : Rd w v1 m) (k2 : (Lit.int .u8 a2).wf = true) :
    Calls Try.prog 7 #[v0, v1, .int .u8 a2] w fun e w' => e = .returned (.bool true) ∧ Below w.heap.size w w' := by
  obtain ⟨i0, hi, hz0, hz1, hz2⟩ := info_parts info_u8
  have b2 := bounds_u8 k2
  obtain ⟨x, rfl⟩ : ∃ n : Nat, a2 = (n : Int) := ⟨a2.toNat, by omega⟩
  have hx : x < 256 := by omega
  have HX := Lib.hid hx
  obtain ⟨A0, n0, rfl, _, hc0, _⟩ := k0.form
  obtain ⟨A1, n1, rfl, _, hc1, _⟩ := k1.form
  unfold maxLen at hc0 hc1
  have R0 := Lib.hid k0
  have R1 := Lib.hid k1
  clear k0 k1 k2
  by_cases hl : 40 < l.length
  · have lI : (40 : Int) < l.length := by omega
    go_enter Try.func7, Try.ntmps7
    go_wp2_with (fail)
    refine (fieldAwake_any HB HM _).mono ?_
    rintro e w9 ⟨rfl, hb9⟩
    go_wp2_with (fail)
    go_ret
    exact ⟨rfl, hb9⟩
  have lI : (l.length : Int) ≤ 40 := by omega
  by_cases hm : 40 < m.length
  · have mI : (40 : Int) < m.length := by omega
    go_enter Try.func7, Try.ntmps7
    go_wp2_with (fail)
    refine (fieldAwake_any HB HM _).mono ?_
    rintro e w9 ⟨rfl, hb9⟩
    go_wp2_with (fail)
    go_ret
    exact ⟨rfl, hb9⟩
  have mI : (m.length : Int) ≤ 40 := by omega
  have lD : decide ((40 : Int) < (l.length : Int)) = false := decide_eq_false (by omega)
  have mD : decide ((40 : Int) < (m.length : Int)) = false := decide_eq_false (by omega)
  have L40 : Hid (l.length ≤ 40 ∧ m.length ≤ 40) := Lib.hid (by omega)
  clear hl hm
  obtain ⟨p, hp⟩ : ∃ p, p = geval l x := ⟨_, rfl⟩
  obtain ⟨q, hq⟩ : ∃ q, q = geval m x := ⟨_, rfl⟩
  obtain ⟨r, hr⟩ : ∃ r, r = gmul x p := ⟨_, rfl⟩
  have hpl : p < 256 := by rw [hp]; exact geval_lt l hx
  have hql : q < 256 := by rw [hq]; exact geval_lt m hx
  have HXR : bits .xor .u8 (p : Int) (q : Int) = ((p ^^^ q : Nat) : Int) := u8_xor_nat p q hpl hql
  obtain ⟨s, hs⟩ : ∃ s, s = p ^^^ q := ⟨_, rfl⟩
  rw [← hs] at HXR
  have CL : Hid (∀ TB W, Tab W TB → Rd W (.slice A0 l.length n0) l → Calls Try.prog 14 #[.pointer (some ⟨TB, 0, none⟩), .slice A0 l.length n0, .int .u8 (x : Int)] W fun e W' => e = .returned (.int .u8 (p : Int)) ∧ ∃ m, W' = W.drewN m) := Lib.hid fun TB W hT hR => by rw [hp]; exact HE TB _ l x W hT hR (by omega) hx
  have CM : Hid (∀ TB W, Tab W TB → Rd W (.slice A1 m.length n1) m → Calls Try.prog 14 #[.pointer (some ⟨TB, 0, none⟩), .slice A1 m.length n1, .int .u8 (x : Int)] W fun e W' => e = .returned (.int .u8 (q : Int)) ∧ ∃ m, W' = W.drewN m) := Lib.hid fun TB W hT hR => by rw [hq]; exact HE TB _ m x W hT hR (by omega) hx
  have CS : Hid (∀ TB W v, Tab W TB → Rd W v (gsum l m) → Calls Try.prog 14 #[.pointer (some ⟨TB, 0, none⟩), v, .int .u8 (x : Int)] W fun e W' => e = .returned (.int .u8 (s : Int)) ∧ ∃ m, W' = W.drewN m) := Lib.hid fun TB W v hT hR => by rw [hs, hp, hq, ← geval_sum l m hx]; exact HE TB _ _ x W hT hR (by rw [gsum_length]; omega) hx
  have CZ : Hid (∀ TB W v, Tab W TB → Rd W v (0 :: l) → Calls Try.prog 14 #[.pointer (some ⟨TB, 0, none⟩), v, .int .u8 (x : Int)] W fun e W' => e = .returned (.int .u8 (r : Int)) ∧ ∃ m, W' = W.drewN m) := Lib.hid fun TB W v hT hR => by rw [hr, hp, ← geval_shift l hx]; exact HE TB _ _ x W hT hR (by simp; omega) hx
  have CR : Hid (∀ TB W, Tab W TB → Calls Try.prog 13 #[.pointer (some ⟨TB, 0, none⟩), .int .u8 (x : Int), .int .u8 (p : Int)] W fun e W' => e = .returned (.int .u8 (r : Int)) ∧ ∃ m, W' = W.drewN m) := Lib.hid fun TB W hT => by rw [hr]; exact HM TB x p W hT hx hpl
  clear hp hq hr hs hpl hql hx
  go_enter Try.func7, Try.ntmps7
  go_wp2_with (fail)
  refine (HB w).mono ?_
  rintro e W0 ⟨TB, rfl, hT, hb1⟩
  have T0 := Lib.hid hT
  have D0 := Lib.hid hb1
  clear hT hb1
  go_wp2_with (fail)
  refine fsm_loop _ _ _ _ _ _ _ _ _ _ _ _ _ _ _ _ _ _ _ _ _ _ _ _ _ _ _ _ _ _ _ _ _ _ _ _ _ _ _ _ _ _ _ _ _ _ _ _ _ _ _ _ _ _ _ _ _ _ _ _ _ _ _ _ _ _ _ _ _ _ _ _ _ _ _ _ _ _ _ _ _ _ _ _ l m A0 A1 n0 n1 W0 lI mI (Lib.hid (R0.out.below D0.out)) (Lib.hid (R1.out.below D0.out)) (Lib.hid ?_)
  intro u9 u10 u21 u22 u23 u24 u25 u26 u27 u28 u29 u30 u31 u32 u33 u34 u35 u36 u37 u38 u39 u40 u41 u42 u43 u44 u45 u46 u47 u48 u49 u50 u51 u52 u53 u54 vs W1 os hb
  have D1 : Hid (Below w.heap.size w W1) := Lib.hid (D0.out.trans (hb.out.mono D0.out.size))
  have T1 : Hid (Tab W1 TB) := Lib.hid (T0.out.below hb.out)
  have S1 : Hid (w.heap.size ≤ W0.heap.size ∧ W0.heap.size ≤ W1.heap.size) := Lib.hid ⟨D0.out.size, hb.out.size⟩
  have O1 := Lib.hid os.out
  clear os hb T0 D0
  go_wp2_with (fail)
  refine (CS.out TB W1 vs T1.out (Rd.of_own O1.out)).mono ?_
  rintro e w' ⟨rfl, n2, rfl⟩
  obtain ⟨W2, hW⟩ : ∃ W : World, W = W1.drewN n2 := ⟨_, rfl⟩
  have T2 : Hid (Tab W2 TB) := Lib.hid (by rw [hW]; exact T1.out.drewN n2)
  have D2 : Hid (Below w.heap.size w W2) := Lib.hid (by rw [hW]; exact below_drewN D1.out n2)
  have O2 : Hid (W2.ownsRow W0.heap.size 5 1 vs (gsum l m).length ((gsum l m).map bv)) := Lib.hid (by rw [hW]; exact own_lain O1.out (below_drewN (Below.refl _ _) n2))
  rw [← hW]
  clear hW T1 D1 O1
  go_wp2_with (fail)
  refine (CL.out TB W2 T2.out (R0.out.below D2.out)).mono ?_
  rintro e w' ⟨rfl, n3, rfl⟩
  obtain ⟨W3, hW⟩ : ∃ W : World, W = W2.drewN n3 := ⟨_, rfl⟩
  have T3 : Hid (Tab W3 TB) := Lib.hid (by rw [hW]; exact T2.out.drewN n3)
  have D3 : Hid (Below w.heap.size w W3) := Lib.hid (by rw [hW]; exact below_drewN D2.out n3)
  have O3 : Hid (W3.ownsRow W0.heap.size 5 1 vs (gsum l m).length ((gsum l m).map bv)) := Lib.hid (by rw [hW]; exact own_lain O2.out (below_drewN (Below.refl _ _) n3))
  rw [← hW]
  clear hW T2 D2 O2
  go_wp2_with (fail)
  refine (CM.out TB W3 T3.out (R1.out.below D3.out)).mono ?_
  rintro e w' ⟨rfl, n4, rfl⟩
  obtain ⟨W4, hW⟩ : ∃ W : World, W = W3.drewN n4 := ⟨_, rfl⟩
  have T4 : Hid (Tab W4 TB) := Lib.hid (by rw [hW]; exact T3.out.drewN n4)
  have D4 : Hid (Below w.heap.size w W4) := Lib.hid (by rw [hW]; exact below_drewN D3.out n4)
  have O4 : Hid (W4.ownsRow W0.heap.size 5 1 vs (gsum l m).length ((gsum l m).map bv)) := Lib.hid (by rw [hW]; exact own_lain O3.out (below_drewN (Below.refl _ _) n4))
  rw [← hW]
  clear hW T3 D3 O3
  have OL : Hid ((W4.alloc (.cells #[Value.int .u8 0] 5)).ownsRow W4.heap.size 5 1 (.slice (some ⟨W4.heap.size, 0, none⟩) 1 1) 1 [Value.int .u8 0]) := Lib.hid (own_lit1 rfl (Nat.le_refl _))
  have RL : Hid (Rd (W4.alloc (.cells #[Value.int .u8 0] 5)) (.slice A0 l.length n0) l) := Lib.hid (R0.out.below (D4.out.alloc D4.out.size _))
  go_wp2_with (at_builtin
               refine wpList_unguard rfl (wpList_append_rd _ rfl (.tmp 71) (.tmp 72) _ rfl W4.heap.size 5 i0 _ Try.underlying30 hi hz0 hz1 hz2 rfl _ _ _ rfl OL.out _ l rfl RL.out ?_ ?_ ?_)
               · have := L40.out; omega
               · simp
               intro v5 W5 own5 g5)
  have B5 : Below W4.heap.size W4 W5 := ((Below.refl _ W4).alloc (Nat.le_refl _) _).grown g5 (by simp) (own_ge OL.out)
  have T5 : Hid (Tab W5 TB) := Lib.hid (T4.out.below B5)
  have D5 : Hid (Below w.heap.size w W5) := Lib.hid (D4.out.trans (B5.mono D4.out.size))
  have R5 : Hid (Rd W5 v5 (0 :: l)) := Lib.hid (Rd.of_own (xs := 0 :: l) (base := W4.heap.size) (t := 5) (by
    have h := own5
    rw [show 1 + l.length = (0 :: l).length by simp; omega] at h
    exact h))
  clear own5 g5 B5 T4 D4 O4 OL RL
  refine (CZ.out TB W5 v5 T5.out R5.out).mono ?_
  rintro e w' ⟨rfl, n6, rfl⟩
  obtain ⟨W6, hW⟩ : ∃ W : World, W = W5.drewN n6 := ⟨_, rfl⟩
  have T6 : Hid (Tab W6 TB) := Lib.hid (by rw [hW]; exact T5.out.drewN n6)
  have D6 : Hid (Below w.heap.size w W6) := Lib.hid (by rw [hW]; exact below_drewN D5.out n6)
  rw [← hW]
  clear hW T5 D5
  go_wp2_with (fail)
  refine (CL.out TB W6 T6.out (R0.out.below D6.out)).mono ?_
  rintro e w' ⟨rfl, n7, rfl⟩
  obtain ⟨W7, hW⟩ : ∃ W : World, W = W6.drewN n7 := ⟨_, rfl⟩
  have T7 : Hid (Tab W7 TB) := Lib.hid (by rw [hW]; exact T6.out.drewN n7)
  have D7 : Hid (Below w.heap.size w W7) := Lib.hid (by rw [hW]; exact below_drewN D6.out n7)
  rw [← hW]
  clear hW T6 D6
  go_wp2_with (fail)
  refine (CR.out TB W7 T7.out).mono ?_
  rintro e w' ⟨rfl, n8, rfl⟩
  obtain ⟨W8, hW⟩ : ∃ W : World, W = W7.drewN n8 := ⟨_, rfl⟩
  have T8 : Hid (Tab W8 TB) := Lib.hid (by rw [hW]; exact T7.out.drewN n8)
  have D8 : Hid (Below w.heap.size w W8) := Lib.hid (by rw [hW]; exact below_drewN D7.out n8)
  rw [← hW]
  clear hW T7 D7
  go_wp2_with (fail)
  refine (fieldAwake_any HB HM _).mono ?_
  rintro e w9 ⟨rfl, hb9⟩
  go_wp2_with (fail)
  go_ret
  exact ⟨rfl, D8.out.trans (hb9.mono D8.out.size)⟩
end Go.Proofs.Ytnkalmclbpgnbaa.fieldSums
