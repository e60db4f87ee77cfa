/- Part 43 of the words that the laws share: DlFrB. No condition of its own: each theorem says its own. -/
import Derived.Test.YtcicdbhffkpldaaPart25
import Derived.Test.YtcicdbhffkpldaaPart30
import Derived.Test.YtcicdbhffkpldaaPart29
import Derived.Test.YtcicdbhffkpldaaPart22
import Derived.BigQuiet

/- The fourteenth reference's Form, the pieces of a row. Conditions: a row of pieces, at most 1000; what is laid is short. -/
namespace Go.Proofs.Ytcicdbhffkpldaa
open Go.RowKit

theorem pcC5 {w0 W : World} {g o n c j : Nat} {l : List Pc} {p : Pc} (h : RsP w0 (.slice (some ⟨g, o, none⟩) n c) l) (hp : l[j]? = some p) (hb : Below w0.heap.size w0 W) :
    W.cell? ⟨g, o + j * 5, none⟩ = some (.string p.s) ∧ W.cell? ⟨g, o + j * 5 + 1, none⟩ = some (.int .i64 p.t) ∧ W.cell? ⟨g, o + j * 5 + 2, none⟩ = some (.int .i64 p.v) ∧ W.cell? ⟨g, o + j * 5 + 3, none⟩ = some (.int .u64 (p.n : Int)) ∧ W.cell? ⟨g, o + j * 5 + 4, none⟩ = some (.int .u16 (p.o : Int)) := by
  obtain ⟨g', o', he, _, hr, _⟩ := (h.below hb).at2 hp
  injection he with he
  injection he with h1 h2
  subst h1 h2
  exact range5 hr
theorem zigC (z : Int) (n : Nat) (hn : n = zigN z) (h : -9223372036854775808 ≤ z ∧ z ≤ 9223372036854775807) (W : World) : Calls Try.prog 45 #[.int .i64 z] W fun e W' => e = .returned (.int .u64 (n : Int)) ∧ W' = W := by
  rw [hn]
  exact refZig_any z h W
theorem shortC (n : Nat) (bs : List UInt8) (hb : bs = sh n) (hn : n < 18446744073709551616) (W : World) : Calls Try.prog 44 #[.int .u64 (n : Int)] W (Own W 5 bs) := by
  rw [hb]
  exact refShort_any n W (by omega)
theorem formC (n : Nat) (bs : List UInt8) (hb : bs = leB 2 n) (hn : n < 65536) (W : World) : Calls Try.prog 30 #[.int .u64 (n : Int), .int .i64 2] W (Own W 5 bs) := by
  rw [hb]
  exact form_any n 2 W (by omega) (by omega)
def RfjRel (w0 : World) (l XS : List UInt8) (L : List Pc) (i K : Nat) (x y : Value) (wx : World) : Prop :=
  ∃ (j : Nat) (xs : List UInt8) (a d v : Int), y = .int .i64 (j : Int) ∧ i ≤ j ∧ j ≤ K ∧ Was L i j a d v ∧ OB w0 wx x xs ∧ l ++ XS = l ++ (xs ++ pcsB a d v ((L.drop j).take (K - j)))
noncomputable def body_rfj : Code := (((Try.f29.body.map loopsOf).getD [])[2]?).getD .skip
set_option maxRecDepth 100000 in
set_option maxHeartbeats 4000000 in
theorem rfj_loop (c1 c2 c4 c8 c9 c10 c11 c12 c13 c14 c15 c16 c17 c18 c19 c20 c21 c22 c23 c24 c25 c26 c27 c28 c29 c30 c31 c32 c33 c34 c35 c36 c37 c38 c39 c40 c41 c42 c43 c44 c45 c46 c47 c48 c49 c50 c51 c52 c53 c54 c55 c56 c57 c58 c59 c60 c61 c62 c63 c64 c65 c66 c67 c68 c69 c70 c71 c72 c73 c74 c75 c76 c77 c78 c79 c80 c81 c82 c83 c84 c85 c86 c87 c88 c89 c90 c91 c92 c93 c94 c95 c96 c97 c98 c99 c100 c101 c102 c103 c104 c105 c106 c107 c108 c109 c110 c111 c112 c113 c114 c115 c116 c117 c118 c119 c120 c121 c122 c123 c124 c125 c126 c127 c128 c129 c130 c131 c132 c133 c134 c135 c136 c137 c138 c139 c140 c141 c142 c143 : Value) (w0 : World) (A : Option Addr) (c : Nat) (l : List Pc) (w : World) (h0 : Hid (RsP w0 (.slice A l.length c) l)) (hn : Hid (l.length ≤ 1000)) (i K : Nat) (hK : Hid (i ≤ K ∧ K ≤ l.length)) (v0 : Value) (xs0 XS : List UInt8) (hX : Hid (XS = xs0 ++ pcsB 0 0 0 ((l.drop i).take (K - i)))) (hT : Hid (XS.length ≤ 2000000)) (hob : Hid (OB w0 w v0 xs0)) {Q : Exit → Act → World → Prop}
    (HQ : Hid (∀ (u8 u9 u10 u62 u63 u64 u65 u66 u67 u68 u69 u70 u71 u72 u73 u74 u75 u76 u77 u78 u79 u80 u81 u82 u83 u84 u85 u86 u87 u88 u89 u90 u91 u92 u93 u94 u95 u96 u97 u98 u99 u100 u101 u102 u103 u104 u105 u106 u107 u108 u109 u110 u111 u112 u113 u114 u115 u116 u117 u118 u119 u120 u121 u122 u123 u124 u125 u126 u127 u128 u129 u130 u131 u132 u133 u134 u135 u136 u137 v' : Value) (w' : World), Hid (OB w0 w' v' XS) → Q (.exit 4) ⟨List.toArray ((.slice A l.length c) :: c1 :: c2 :: v' :: c4 :: (.int .i64 (i : Int)) :: (.int .i64 (K : Int)) :: (.int .i64 (K : Int)) :: u8 :: u9 :: u10 :: c11 :: c12 :: c13 :: c14 :: c15 :: c16 :: c17 :: c18 :: c19 :: c20 :: c21 :: c22 :: c23 :: c24 :: c25 :: c26 :: c27 :: c28 :: c29 :: c30 :: c31 :: c32 :: c33 :: c34 :: c35 :: c36 :: c37 :: c38 :: c39 :: c40 :: c41 :: c42 :: c43 :: c44 :: c45 :: c46 :: c47 :: c48 :: c49 :: c50 :: c51 :: c52 :: c53 :: c54 :: c55 :: c56 :: c57 :: c58 :: c59 :: c60 :: c61 :: u62 :: u63 :: u64 :: u65 :: u66 :: u67 :: u68 :: u69 :: u70 :: u71 :: u72 :: u73 :: u74 :: u75 :: u76 :: u77 :: u78 :: u79 :: u80 :: u81 :: u82 :: u83 :: u84 :: u85 :: u86 :: u87 :: u88 :: u89 :: u90 :: u91 :: u92 :: u93 :: u94 :: u95 :: u96 :: u97 :: u98 :: u99 :: u100 :: u101 :: u102 :: u103 :: u104 :: u105 :: u106 :: u107 :: u108 :: u109 :: u110 :: u111 :: u112 :: u113 :: u114 :: u115 :: u116 :: u117 :: u118 :: u119 :: u120 :: u121 :: u122 :: u123 :: u124 :: u125 :: u126 :: u127 :: u128 :: u129 :: u130 :: u131 :: u132 :: u133 :: u134 :: u135 :: u136 :: u137 :: c138 :: c139 :: c140 :: c141 :: c142 :: c143 :: []), []⟩ w')) :
    (Code.loop body_rfj).wp Try.prog Q ⟨List.toArray ((.slice A l.length c) :: c1 :: c2 :: v0 :: c4 :: (.int .i64 (i : Int)) :: (.int .i64 (K : Int)) :: (.int .i64 (i : Int)) :: c8 :: c9 :: c10 :: c11 :: c12 :: c13 :: c14 :: c15 :: c16 :: c17 :: c18 :: c19 :: c20 :: c21 :: c22 :: c23 :: c24 :: c25 :: c26 :: c27 :: c28 :: c29 :: c30 :: c31 :: c32 :: c33 :: c34 :: c35 :: c36 :: c37 :: c38 :: c39 :: c40 :: c41 :: c42 :: c43 :: c44 :: c45 :: c46 :: c47 :: c48 :: c49 :: c50 :: c51 :: c52 :: c53 :: c54 :: c55 :: c56 :: c57 :: c58 :: c59 :: c60 :: c61 :: c62 :: c63 :: c64 :: c65 :: c66 :: c67 :: c68 :: c69 :: c70 :: c71 :: c72 :: c73 :: c74 :: c75 :: c76 :: c77 :: c78 :: c79 :: c80 :: c81 :: c82 :: c83 :: c84 :: c85 :: c86 :: c87 :: c88 :: c89 :: c90 :: c91 :: c92 :: c93 :: c94 :: c95 :: c96 :: c97 :: c98 :: c99 :: c100 :: c101 :: c102 :: c103 :: c104 :: c105 :: c106 :: c107 :: c108 :: c109 :: c110 :: c111 :: c112 :: c113 :: c114 :: c115 :: c116 :: c117 :: c118 :: c119 :: c120 :: c121 :: c122 :: c123 :: c124 :: c125 :: c126 :: c127 :: c128 :: c129 :: c130 :: c131 :: c132 :: c133 :: c134 :: c135 :: c136 :: c137 :: c138 :: c139 :: c140 :: c141 :: c142 :: c143 :: []), []⟩ w := by
  unfold body_rfj
  conv => arg 2; arg 1; whnf
  go_loopw [3, 7] (fun x y wx => RfjRel w0 [] XS l i K x y wx) (fun _ y _ => K - (intOf y).toNat)
  case atStart => exact ⟨i, xs0, 0, 0, 0, rfl, Nat.le_refl _, hK.out.1, .inl ⟨rfl, rfl, rfl, rfl⟩, hob.out, by rw [hX.out]⟩
  case round =>
    obtain ⟨j, xs, a, d, v, rfl, hij, hjK, hwas, hobj, hxs⟩ := hrel
    have HOB := Lib.hid hobj
    have HWS := Lib.hid hwas
    have hl := hn.out
    have hKl := hK.out.2
    have pI : (l.length : Int) ≤ 9223372036854775807 := by omega
    by_cases hlt : j < K
    · have jI : (j : Int) < (K : Int) := by omega
      have jL : (j : Int) < (l.length : Int) := by omega
      have HLT : Hid (j < K ∧ i ≤ j) := Lib.hid ⟨hlt, hij⟩
      obtain ⟨p, hp⟩ : ∃ p, l[j]? = some p := ⟨_, List.getElem?_eq_getElem (by omega)⟩
      obtain ⟨g, o, rfl, hg, _, hok⟩ := h0.out.at2 hp
      have HOK := Lib.hid hok
      have HP := Lib.hid hp
      have HNX := Lib.hid (hwas.next hp hok)
      rw [pcs_at hp hlt] at hxs
      obtain ⟨p0, p1, p2, p3, p4⟩ := pcC5 h0.out hp hobj.low
      obtain ⟨s, t, u, nn, oo⟩ := p
      simp only at p0 p1 p2 p3 p4 HNX hxs
      have hbt : -9223372036854775808 ≤ t ∧ t ≤ 9223372036854775807 := wf_i64 hok.t
      have hbu : -9223372036854775808 ≤ u ∧ u ≤ 9223372036854775807 := wf_i64 hok.v
      have HNO : Hid (nn < 18446744073709551616 ∧ oo < 65536) := Lib.hid ⟨hok.n, hok.o⟩
      obtain ⟨z1, hz1⟩ : ∃ z1, z1 = wr64 (t - a) := ⟨_, rfl⟩
      obtain ⟨z2, hz2⟩ : ∃ z2, z2 = wr64 (z1 - d) := ⟨_, rfl⟩
      obtain ⟨z3, hz3⟩ : ∃ z3, z3 = wr64 (u - v) := ⟨_, rfl⟩
      rw [← hz1, ← hz2, ← hz3] at hxs
      rw [← hz1] at HNX
      obtain ⟨n2, hn2⟩ : ∃ n2, n2 = zigN z2 := ⟨_, rfl⟩
      obtain ⟨n3, hn3⟩ : ∃ n3, n3 = zigN z3 := ⟨_, rfl⟩
      rw [← hn2, ← hn3] at hxs
      have hw2 : -9223372036854775808 ≤ z2 ∧ z2 ≤ 9223372036854775807 := hz2 ▸ wr64_in _
      have hw3 : -9223372036854775808 ≤ z3 ∧ z3 ≤ 9223372036854775807 := hz3 ▸ wr64_in _
      have HZ2 := Lib.hid (zigC z2 n2 hn2 hw2)
      have HZ3 := Lib.hid (zigC z3 n3 hn3 hw3)
      obtain ⟨b1, hb1⟩ : ∃ b1, b1 = sh n2 := ⟨_, rfl⟩
      obtain ⟨b2, hb2⟩ : ∃ b2, b2 = sh n3 := ⟨_, rfl⟩
      obtain ⟨b3, hb3⟩ : ∃ b3, b3 = sh nn := ⟨_, rfl⟩
      obtain ⟨b4, hb4⟩ : ∃ b4, b4 = leB 2 oo := ⟨_, rfl⟩
      rw [← hb1, ← hb2, ← hb3, ← hb4] at hxs
      have HS1 := Lib.hid (shortC n2 b1 hb1 (hn2 ▸ zig_lt hw2))
      have HS2 := Lib.hid (shortC n3 b2 hb2 (hn3 ▸ zig_lt hw3))
      have HS3 := Lib.hid (shortC nn b3 hb3 hok.n)
      have HS4 := Lib.hid (formC oo b4 hb4 hok.o)
      have HX := Lib.hid hxs
      have HL : Hid (xs.length + (b1.length + (b2.length + (b3.length + b4.length))) ≤ 2000000) := Lib.hid (by
        have h := congrArg List.length hxs
        have h2 := hT.out
        simp only [List.length_append, List.nil_append] at h
        omega)
      have e1 : IntKind.i64.wrap (t - a) = z1 := hz1.symm
      have e2 : IntKind.i64.wrap (z1 - d) = z2 := hz2.symm
      have e3 : IntKind.i64.wrap (u - v) = z3 := hz3.symm
      clear hxs hb1 hb2 hb3 hb4 hn2 hn3 hw2 hw3 hz1 hz2 hz3 hbt hbu hobj hok hp hg
      rcases hwas with ⟨rfl, rfl, rfl, rfl⟩ | ⟨hji, q, hq, rfl, rfl, rfl⟩ | ⟨k, q, r, hjk, hik, hq, hr, rfl, hd, rfl⟩
      · rw [Int.sub_zero] at e1 e2 e3
        obtain ⟨j1, hj1⟩ : ∃ j1, j1 = j + 1 := ⟨_, rfl⟩
        have jv : IntKind.i64.wrap ((j : Int) + 1) = (j1 : Int) := by rw [IntWalk.i64_in _ (by omega)]; omega
        have jn : decide (j1 < j) = false := decide_eq_false (by omega)
        have jn2 : decide ((j1 : Int) < (j : Int)) = false := decide_eq_false (by omega)
        have HJ1 := Lib.hid hj1
        clear hij hjK hl hKl hlt hj1
        go_wp2_with (fail)
        refine (HZ2.out _).mono ?_
        rintro e w1 ⟨rfl, hw1⟩
        replace hw1 := hw1.symm
        subst hw1
        go_wp2_with (fail)
        refine (HS1.out _).mono ?_
        rintro e w1 ⟨v1, rfl, own1, hb1⟩
        have OB1 := Lib.hid (HOB.out.on hb1)
        have RD1 := Lib.hid (Rd.of_own own1)
        clear own1 hb1 p0 p1 p2 p3 p4
        go_wp2_with (at_builtin
                     refine wpList_append_ob rfl _ _ rfl rfl OB1.out rfl RD1.out (by have := HL.out; omega) ?_
                     intro v2 w2 ob2
                     obtain ⟨q0, q1, q2, q3, q4⟩ := pcC5 h0.out HP.out ob2.low
                     have OB2 := Lib.hid ob2
                     clear ob2)
        refine (HZ3.out _).mono ?_
        rintro e w3 ⟨rfl, hw3⟩
        replace hw3 := hw3.symm
        subst hw3
        go_wp2_with (fail)
        refine (HS2.out _).mono ?_
        rintro e w3 ⟨v3, rfl, own3, hb3⟩
        have OB3 := Lib.hid (OB2.out.on hb3)
        have RD3 := Lib.hid (Rd.of_own own3)
        clear own3 hb3 q0 q1 q2 q3 q4
        go_wp2_with (at_builtin
                     refine wpList_append_ob rfl _ _ rfl rfl OB3.out rfl RD3.out (by have := HL.out; simp only [List.length_append]; omega) ?_
                     intro v4 w4 ob4
                     obtain ⟨q0, q1, q2, q3, q4⟩ := pcC5 h0.out HP.out ob4.low
                     have OB4 := Lib.hid ob4
                     clear ob4)
        refine (HS3.out _).mono ?_
        rintro e w5 ⟨v5, rfl, own5, hb5⟩
        have OB5 := Lib.hid (OB4.out.on hb5)
        have RD5 := Lib.hid (Rd.of_own own5)
        clear own5 hb5 q0 q1 q2 q3 q4
        go_wp2_with (at_builtin
                     refine wpList_append_ob rfl _ _ rfl rfl OB5.out rfl RD5.out (by have := HL.out; simp only [List.length_append]; omega) ?_
                     intro v6 w6 ob6
                     obtain ⟨q0, q1, q2, q3, q4⟩ := pcC5 h0.out HP.out ob6.low
                     have OB6 := Lib.hid ob6
                     have ho : (oo : Int) ≤ 18446744073709551615 := by have := HNO.out; omega
                     clear ob6)
        refine (HS4.out _).mono ?_
        rintro e w7 ⟨v7, rfl, own7, hb7⟩
        have OB7 := Lib.hid (OB6.out.on hb7)
        have RD7 := Lib.hid (Rd.of_own own7)
        clear own7 hb7 q0 q1 q2 q3 q4 ho
        go_wp2_with (at_builtin
                     refine wpList_append_ob rfl _ _ rfl rfl OB7.out rfl RD7.out (by have := HL.out; simp only [List.length_append]; omega) ?_
                     intro v8 w8 ob8
                     have OB8 := Lib.hid ob8
                     clear ob8)
        have ej := HJ1.out
        subst ej
        refine ⟨⟨j + 1, _, _, _, _, by first | rfl | go_num, by have := HLT.out; omega, by have := HLT.out; omega, HNX.out, OB8.out, by rw [HX.out]; simp only [List.append_assoc]⟩, by have := HLT.out; simp [intOf]; omega⟩
      · obtain ⟨r0, r1, r2, _, _⟩ := pcC5 h0.out hq HOB.out.low
        have jw : IntKind.i64.wrap ((j : Int) - 1) = (i : Int) := by rw [IntWalk.i64_in _ (by omega)]; omega
        have jv : IntKind.i64.wrap ((i : Int) + 1) = (j : Int) := by rw [IntWalk.i64_in _ (by omega)]; omega
        have iJ : (i : Int) < (j : Int) := by omega
        have iL : (i : Int) < (l.length : Int) := by omega
        clear hji hq hij hjK hl hKl hlt r0 p0
        go_wp2_with (fail)
        refine (HZ2.out _).mono ?_
        rintro e w1 ⟨rfl, hw1⟩
        replace hw1 := hw1.symm
        subst hw1
        go_wp2_with (fail)
        refine (HS1.out _).mono ?_
        rintro e w1 ⟨v1, rfl, own1, hb1⟩
        have OB1 := Lib.hid (HOB.out.on hb1)
        have RD1 := Lib.hid (Rd.of_own own1)
        clear own1 hb1 p1 p2 p3 p4 r1 r2
        go_wp2_with (at_builtin
                     refine wpList_append_ob rfl _ _ rfl rfl OB1.out rfl RD1.out (by have := HL.out; omega) ?_
                     intro v2 w2 ob2
                     obtain ⟨q0, q1, q2, q3, q4⟩ := pcC5 h0.out HP.out ob2.low
                     have OB2 := Lib.hid ob2
                     clear ob2)
        refine (HZ3.out _).mono ?_
        rintro e w3 ⟨rfl, hw3⟩
        replace hw3 := hw3.symm
        subst hw3
        go_wp2_with (fail)
        refine (HS2.out _).mono ?_
        rintro e w3 ⟨v3, rfl, own3, hb3⟩
        have OB3 := Lib.hid (OB2.out.on hb3)
        have RD3 := Lib.hid (Rd.of_own own3)
        clear own3 hb3 q0 q1 q2 q3 q4
        go_wp2_with (at_builtin
                     refine wpList_append_ob rfl _ _ rfl rfl OB3.out rfl RD3.out (by have := HL.out; simp only [List.length_append]; omega) ?_
                     intro v4 w4 ob4
                     obtain ⟨q0, q1, q2, q3, q4⟩ := pcC5 h0.out HP.out ob4.low
                     have OB4 := Lib.hid ob4
                     clear ob4)
        refine (HS3.out _).mono ?_
        rintro e w5 ⟨v5, rfl, own5, hb5⟩
        have OB5 := Lib.hid (OB4.out.on hb5)
        have RD5 := Lib.hid (Rd.of_own own5)
        clear own5 hb5 q0 q1 q2 q3 q4
        go_wp2_with (at_builtin
                     refine wpList_append_ob rfl _ _ rfl rfl OB5.out rfl RD5.out (by have := HL.out; simp only [List.length_append]; omega) ?_
                     intro v6 w6 ob6
                     obtain ⟨q0, q1, q2, q3, q4⟩ := pcC5 h0.out HP.out ob6.low
                     have OB6 := Lib.hid ob6
                     have ho : (oo : Int) ≤ 18446744073709551615 := by have := HNO.out; omega
                     clear ob6)
        refine (HS4.out _).mono ?_
        rintro e w7 ⟨v7, rfl, own7, hb7⟩
        have OB7 := Lib.hid (OB6.out.on hb7)
        have RD7 := Lib.hid (Rd.of_own own7)
        clear own7 hb7 q0 q1 q2 q3 q4 ho
        go_wp2_with (at_builtin
                     refine wpList_append_ob rfl _ _ rfl rfl OB7.out rfl RD7.out (by have := HL.out; simp only [List.length_append]; omega) ?_
                     intro v8 w8 ob8
                     have OB8 := Lib.hid ob8
                     clear ob8)
        refine ⟨⟨j + 1, _, _, _, _, by first | rfl | go_num, by have := HLT.out; omega, by have := HLT.out; omega, HNX.out, OB8.out, by rw [HX.out]; simp only [List.append_assoc]⟩, by have := HLT.out; simp [intOf]; omega⟩
      · obtain ⟨k1, hk1⟩ : ∃ k1, k1 = k + 1 := ⟨_, rfl⟩
        rw [← hk1] at hr
        obtain ⟨i1, hi1⟩ : ∃ i1, i1 = i + 1 := ⟨_, rfl⟩
        obtain ⟨r0, r1, r2, _, _⟩ := pcC5 h0.out hr HOB.out.low
        obtain ⟨m0, m1, m2, _, _⟩ := pcC5 h0.out hq HOB.out.low
        have jw : IntKind.i64.wrap ((j : Int) - 1) = (k1 : Int) := by rw [IntWalk.i64_in _ (by omega)]; omega
        have jv : IntKind.i64.wrap ((i : Int) + 1) = (i1 : Int) := by rw [IntWalk.i64_in _ (by omega)]; omega
        have jx : IntKind.i64.wrap ((j : Int) - 2) = (k : Int) := by rw [IntWalk.i64_in _ (by omega)]; omega
        have iJ : (i : Int) < (j : Int) := by omega
        have iJ1 : (i1 : Int) < (j : Int) := by omega
        have kL : (k : Int) < (l.length : Int) := by omega
        have kL1 : (k1 : Int) < (l.length : Int) := by omega
        have ed : IntKind.i64.wrap (r.t - q.t) = d := hd.symm
        clear hjk hq hr hij hjK hl hKl hlt r0 m0 m2 p0 hik hk1 hi1 hd
        go_wp2_with (fail)
        refine (HZ2.out _).mono ?_
        rintro e w1 ⟨rfl, hw1⟩
        replace hw1 := hw1.symm
        subst hw1
        go_wp2_with (fail)
        refine (HS1.out _).mono ?_
        rintro e w1 ⟨v1, rfl, own1, hb1⟩
        have OB1 := Lib.hid (HOB.out.on hb1)
        have RD1 := Lib.hid (Rd.of_own own1)
        clear own1 hb1 p1 p2 p3 p4 r1 r2 m1
        go_wp2_with (at_builtin
                     refine wpList_append_ob rfl _ _ rfl rfl OB1.out rfl RD1.out (by have := HL.out; omega) ?_
                     intro v2 w2 ob2
                     obtain ⟨q0, q1, q2, q3, q4⟩ := pcC5 h0.out HP.out ob2.low
                     have OB2 := Lib.hid ob2
                     clear ob2)
        refine (HZ3.out _).mono ?_
        rintro e w3 ⟨rfl, hw3⟩
        replace hw3 := hw3.symm
        subst hw3
        go_wp2_with (fail)
        refine (HS2.out _).mono ?_
        rintro e w3 ⟨v3, rfl, own3, hb3⟩
        have OB3 := Lib.hid (OB2.out.on hb3)
        have RD3 := Lib.hid (Rd.of_own own3)
        clear own3 hb3 q0 q1 q2 q3 q4
        go_wp2_with (at_builtin
                     refine wpList_append_ob rfl _ _ rfl rfl OB3.out rfl RD3.out (by have := HL.out; simp only [List.length_append]; omega) ?_
                     intro v4 w4 ob4
                     obtain ⟨q0, q1, q2, q3, q4⟩ := pcC5 h0.out HP.out ob4.low
                     have OB4 := Lib.hid ob4
                     clear ob4)
        refine (HS3.out _).mono ?_
        rintro e w5 ⟨v5, rfl, own5, hb5⟩
        have OB5 := Lib.hid (OB4.out.on hb5)
        have RD5 := Lib.hid (Rd.of_own own5)
        clear own5 hb5 q0 q1 q2 q3 q4
        go_wp2_with (at_builtin
                     refine wpList_append_ob rfl _ _ rfl rfl OB5.out rfl RD5.out (by have := HL.out; simp only [List.length_append]; omega) ?_
                     intro v6 w6 ob6
                     obtain ⟨q0, q1, q2, q3, q4⟩ := pcC5 h0.out HP.out ob6.low
                     have OB6 := Lib.hid ob6
                     have ho : (oo : Int) ≤ 18446744073709551615 := by have := HNO.out; omega
                     clear ob6)
        refine (HS4.out _).mono ?_
        rintro e w7 ⟨v7, rfl, own7, hb7⟩
        have OB7 := Lib.hid (OB6.out.on hb7)
        have RD7 := Lib.hid (Rd.of_own own7)
        clear own7 hb7 q0 q1 q2 q3 q4 ho
        go_wp2_with (at_builtin
                     refine wpList_append_ob rfl _ _ rfl rfl OB7.out rfl RD7.out (by have := HL.out; simp only [List.length_append]; omega) ?_
                     intro v8 w8 ob8
                     have OB8 := Lib.hid ob8
                     clear ob8)
        refine ⟨⟨j + 1, _, _, _, _, by first | rfl | go_num, by have := HLT.out; omega, by have := HLT.out; omega, HNX.out, OB8.out, by rw [HX.out]; simp only [List.append_assoc]⟩, by have := HLT.out; simp [intOf]; omega⟩
    · have hlt2 : ¬ j < K := hlt
      obtain rfl : j = K := by omega
      rw [Nat.sub_self, List.take_zero, pcsB, List.append_nil, List.nil_append, List.nil_append] at hxs
      subst hxs
      clear hlt hlt2 hl hKl hij hjK hwas hobj
      go_wp2_with (fail)
      exact HQ.out _ _ _ _ _ _ _ _ _ _ _ _ _ _ _ _ _ _ _ _ _ _ _ _ _ _ _ _ _ _ _ _ _ _ _ _ _ _ _ _ _ _ _ _ _ _ _ _ _ _ _ _ _ _ _ _ _ _ _ _ _ _ _ _ _ _ _ _ _ _ _ _ _ _ _ _ _ _ _ _ _ HOB
end Go.Proofs.Ytcicdbhffkpldaa
