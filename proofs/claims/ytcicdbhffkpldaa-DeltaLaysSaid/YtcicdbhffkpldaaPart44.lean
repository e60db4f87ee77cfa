/- Part 44 of the words that the laws share: DlFr, DlLal. No condition of its own: each theorem says its own. -/
import Derived.Test.YtcicdbhffkpldaaPart30
import Derived.Test.YtcicdbhffkpldaaPart43

/- The fourteenth reference's Form. Conditions: a row of pieces, at most 1000, their series at most 1000 bytes. -/
namespace Go.Proofs.Ytcicdbhffkpldaa
open Go.RowKit

theorem OB.drewN {w0 w : World} {v : Value} {xs : List UInt8} (h : OB w0 w v xs) (m : Nat) : OB w0 (w.drewN m) v xs := h.on (below_drewN (Below.refl _ _) m)
theorem OB.out {w0 w : World} {v : Value} {xs ys : List UInt8} (h : OB w0 w v xs) (e : xs = ys) : OB w0 w v ys := e ▸ h
def flatR (l : List Pc) : List UInt8 := ((runs l).map runB).flatten
theorem flatR_nil : flatR [] = [] := by unfold flatR; rw [runs]; rfl
theorem flatR_at {l : List Pc} {i : Nat} {p : Pc} (h : l[i]? = some p) : flatR (l.drop i) = (sh p.s.size ++ (p.s.toList ++ (sh (twN p l i) ++ pcsB 0 0 0 ((l.drop i).take (twN p l i))))) ++ flatR (l.drop (i + twN p l i)) := by
  unfold flatR
  rw [runs_at h, List.map_cons, List.flatten_cons, runB_at h]
def RfiRel (w0 : World) (l : List Pc) (x y z : Value) (wx : World) : Prop :=
  ∃ (i n : Nat) (xs : List UInt8), z = .int .i64 (i : Int) ∧ y = .int .i64 (n : Int) ∧ i ≤ l.length ∧ n + (runs (l.drop i)).length = (runs l).length ∧ OB w0 wx x xs ∧ flatR l = xs ++ flatR (l.drop i)
noncomputable def body_rfi : Code := (((Try.f29.body.map loopsOf).getD [])[0]?).getD .skip
set_option maxRecDepth 100000 in
set_option maxHeartbeats 4000000 in
theorem rfi_loop (c1 c2 c6 c7 c8 c9 c10 c11 c12 c13 c14 c15 c16 c17 c18 c19 c20 c21 c22 c23 c24 c25 c26 c27 c28 c29 c30 c31 c32 c33 c34 c35 c36 c37 c38 c39 c40 c41 c42 c43 c44 c45 c46 c47 c48 c49 c50 c51 c52 c53 c54 c55 c56 c57 c58 c59 c60 c61 c62 c63 c64 c65 c66 c67 c68 c69 c70 c71 c72 c73 c74 c75 c76 c77 c78 c79 c80 c81 c82 c83 c84 c85 c86 c87 c88 c89 c90 c91 c92 c93 c94 c95 c96 c97 c98 c99 c100 c101 c102 c103 c104 c105 c106 c107 c108 c109 c110 c111 c112 c113 c114 c115 c116 c117 c118 c119 c120 c121 c122 c123 c124 c125 c126 c127 c128 c129 c130 c131 c132 c133 c134 c135 c136 c137 c138 c139 c140 c141 c142 c143 : Value) (w : World) (A : Option Addr) (c : Nat) (l : List Pc) (h0 : Hid (RsP w (.slice A l.length c) l)) (hn : Hid (l.length ≤ 1000 ∧ ∀ p ∈ l, p.s.size ≤ 1000)) {Q : Exit → Act → World → Prop}
    (HQ : Hid (∀ (u6 u7 u8 u9 u10 u11 u12 u13 u14 u15 u16 u17 u18 u19 u20 u21 u22 u23 u24 u25 u26 u27 u28 u29 u30 u31 u32 u33 u34 u35 u36 u37 u38 u39 u40 u41 u42 u43 u44 u45 u46 u47 u48 u49 u50 u51 u52 u53 u54 u55 u56 u57 u58 u59 u60 u61 u62 u63 u64 u65 u66 u67 u68 u69 u70 u71 u72 u73 u74 u75 u76 u77 u78 u79 u80 u81 u82 u83 u84 u85 u86 u87 u88 u89 u90 u91 u92 u93 u94 u95 u96 u97 u98 u99 u100 u101 u102 u103 u104 u105 u106 u107 u108 u109 u110 u111 u112 u113 u114 u115 u116 u117 u118 u119 u120 u121 u122 u123 u124 u125 u126 u127 u128 u129 u130 u131 u132 u133 u134 u135 u136 u137 u138 v' y : Value) (w' : World), Hid (OB w w' v' (flatR l)) → Q (.exit 0) ⟨List.toArray ((.slice A l.length c) :: c1 :: c2 :: v' :: (.int .i64 ((runs l).length : Int)) :: y :: u6 :: u7 :: u8 :: u9 :: u10 :: u11 :: u12 :: u13 :: u14 :: u15 :: u16 :: u17 :: u18 :: u19 :: u20 :: u21 :: u22 :: u23 :: u24 :: u25 :: u26 :: u27 :: u28 :: u29 :: u30 :: u31 :: u32 :: u33 :: u34 :: u35 :: u36 :: u37 :: u38 :: u39 :: u40 :: u41 :: u42 :: u43 :: u44 :: u45 :: u46 :: u47 :: u48 :: u49 :: u50 :: u51 :: u52 :: u53 :: u54 :: u55 :: u56 :: u57 :: u58 :: u59 :: u60 :: u61 :: u62 :: u63 :: u64 :: u65 :: u66 :: u67 :: u68 :: u69 :: u70 :: u71 :: u72 :: u73 :: u74 :: u75 :: u76 :: u77 :: u78 :: u79 :: u80 :: u81 :: u82 :: u83 :: u84 :: u85 :: u86 :: u87 :: u88 :: u89 :: u90 :: u91 :: u92 :: u93 :: u94 :: u95 :: u96 :: u97 :: u98 :: u99 :: u100 :: u101 :: u102 :: u103 :: u104 :: u105 :: u106 :: u107 :: u108 :: u109 :: u110 :: u111 :: u112 :: u113 :: u114 :: u115 :: u116 :: u117 :: u118 :: u119 :: u120 :: u121 :: u122 :: u123 :: u124 :: u125 :: u126 :: u127 :: u128 :: u129 :: u130 :: u131 :: u132 :: u133 :: u134 :: u135 :: u136 :: u137 :: u138 :: c139 :: c140 :: c141 :: c142 :: c143 :: []), []⟩ w')) :
    (Code.loop body_rfi).wp Try.prog Q ⟨List.toArray ((.slice A l.length c) :: c1 :: c2 :: (.slice none 0 0) :: (.int .i64 0) :: (.int .i64 0) :: c6 :: c7 :: c8 :: c9 :: c10 :: c11 :: c12 :: c13 :: c14 :: c15 :: c16 :: c17 :: c18 :: c19 :: c20 :: c21 :: c22 :: c23 :: c24 :: c25 :: c26 :: c27 :: c28 :: c29 :: c30 :: c31 :: c32 :: c33 :: c34 :: c35 :: c36 :: c37 :: c38 :: c39 :: c40 :: c41 :: c42 :: c43 :: c44 :: c45 :: c46 :: c47 :: c48 :: c49 :: c50 :: c51 :: c52 :: c53 :: c54 :: c55 :: c56 :: c57 :: c58 :: c59 :: c60 :: c61 :: c62 :: c63 :: c64 :: c65 :: c66 :: c67 :: c68 :: c69 :: c70 :: c71 :: c72 :: c73 :: c74 :: c75 :: c76 :: c77 :: c78 :: c79 :: c80 :: c81 :: c82 :: c83 :: c84 :: c85 :: c86 :: c87 :: c88 :: c89 :: c90 :: c91 :: c92 :: c93 :: c94 :: c95 :: c96 :: c97 :: c98 :: c99 :: c100 :: c101 :: c102 :: c103 :: c104 :: c105 :: c106 :: c107 :: c108 :: c109 :: c110 :: c111 :: c112 :: c113 :: c114 :: c115 :: c116 :: c117 :: c118 :: c119 :: c120 :: c121 :: c122 :: c123 :: c124 :: c125 :: c126 :: c127 :: c128 :: c129 :: c130 :: c131 :: c132 :: c133 :: c134 :: c135 :: c136 :: c137 :: c138 :: c139 :: c140 :: c141 :: c142 :: c143 :: []), []⟩ w := by
  have HT : Hid ((flatR l).length ≤ 1038000) := Lib.hid (flat_len hn.out.1 hn.out.2)
  have HN : Hid (l.length ≤ 1000) := Lib.hid hn.out.1
  have HRL := Lib.hid (runs_len l)
  unfold body_rfi
  conv => arg 2; arg 1; whnf
  go_loopw [3, 4, 5] (fun x y z wx => RfiRel w l x y z wx) (fun _ _ z _ => l.length - (intOf z).toNat)
  case atStart => exact ⟨0, 0, [], rfl, rfl, Nat.zero_le _, by rw [List.drop_zero, Nat.zero_add], OB.start w, by rw [List.drop_zero]; rfl⟩
  case round =>
    obtain ⟨i, n, xs, rfl, rfl, hi, hsum, hob, hxs⟩ := hrel
    have HOB := Lib.hid hob
    have hl := hn.out.1
    have pI : (l.length : Int) ≤ 9223372036854775807 := by omega
    have nI : (n : Int) ≤ 1000 := by have := HRL.out; omega
    by_cases hlt : i < l.length
    · have iI : (i : Int) < l.length := by omega
      have HLT := Lib.hid hlt
      obtain ⟨p, hp⟩ : ∃ p, l[i]? = some p := ⟨_, List.getElem?_eq_getElem hlt⟩
      have HP := Lib.hid hp
      obtain ⟨r, hr⟩ : ∃ r, r = twN p l i := ⟨_, rfl⟩
      obtain ⟨K, hK⟩ : ∃ K, K = i + r := ⟨_, rfl⟩
      have hKr : K = i + twN p l i := by rw [hK, hr]
      have HKL : Hid (i ≤ K ∧ K ≤ l.length) := Lib.hid ⟨by omega, by rw [hKr]; exact twN_le p l hi⟩
      have hr1 : 1 ≤ r := by rw [hr, twN_yes hp rfl]; omega
      have HR1 : Hid (1 ≤ r ∧ K = i + r) := Lib.hid ⟨hr1, hK⟩
      have hps := hn.out.2 p (List.mem_of_getElem? hp)
      have HRU := Lib.hid (congrArg List.length (runs_at hp))
      have HFL := Lib.hid (flatR_at hp)
      have HRS : Hid (RsP wr (.slice A l.length c) l) := Lib.hid (h0.out.below hob.low)
      rw [← hr] at HRU HFL
      rw [← hK] at HRU HFL
      obtain ⟨b1, hb1⟩ : ∃ b1, b1 = sh p.s.size := ⟨_, rfl⟩
      obtain ⟨b2, hb2⟩ : ∃ b2, b2 = sh r := ⟨_, rfl⟩
      have HS1 := Lib.hid (shortC p.s.size b1 hb1 (by omega))
      have HS2 := Lib.hid (shortC r b2 hb2 (by have := HKL.out; omega))
      rw [← hb1, ← hb2] at HFL
      obtain ⟨s, hs⟩ : ∃ s, s = p.s := ⟨_, rfl⟩
      have HSS := Lib.hid hs
      rw [← hs] at HFL HS1 hps
      have sI : (s.size : Int) ≤ 1000 := by omega
      have HX := Lib.hid hxs
      have HSU := Lib.hid hsum
      rw [HFL.out] at hxs
      have HL : Hid (xs.length + (b1.length + (s.toList.length + b2.length)) ≤ 1038000 ∧ s.toList.length = s.size) := Lib.hid ⟨by
        have h := congrArg List.length hxs
        have h2 := HT.out
        simp only [List.length_append] at h
        omega, str_len s⟩
      have HT3 : Hid ((((xs ++ b1) ++ s.toList) ++ b2 ++ pcsB 0 0 0 ((l.drop i).take (K - i))).length ≤ 2000000) := Lib.hid (by
        have h := congrArg List.length hxs
        have h2 := HT.out
        have h3 : K - i = r := by omega
        rw [h3]
        simp only [List.length_append] at h ⊢
        omega)
      have kw : IntKind.i64.wrap ((K : Int) - (i : Int)) = (r : Int) := by have := HKL.out; rw [IntWalk.i64_in _ (by omega)]; omega
      have KI : (K : Int) ≤ l.length := by have := HKL.out; omega
      have rI : (r : Int) ≤ 1000 := by have := HKL.out; omega
      clear hxs hsum hob hp hr hr1 hb1 hb2 hs hlt hi hl hps hK
      go_wp2_with (fail)
      refine rfk_loop _ _ _ _ _ _ _ _ _ _ _ _ _ _ _ _ _ _ _ _ _ _ _ _ _ _ _ _ _ _ _ _ _ _ _ _ _ _ _ _ _ _ _ _ _ _ _ _ _ _ _ _ _ _ _ _ _ _ _ _ _ _ _ _ _ _ _ _ _ _ _ _ _ _ _ _ _ _ _ _ _ _ _ _ _ _ _ _ _ _ _ _ _ _ _ _ _ _ _ _ _ _ _ _ _ _ _ _ _ _ _ _ _ _ _ _ _ _ _ _ _ _ _ _ _ _ _ _ _ _ _ _ _ _ _ _ _ _ _ _ _ A c l wr HRS HN i p HP (Lib.hid ?_)
      intro u16 u17 u18 u19 u20 u21 u22 u23 u24 u25 u26 u27 u28 u29 u30 u31 u32 u33 u34 m
      rw [← hKr]
      clear hKr
      have HO1 := Lib.hid (HOB.out.drewN m)
      obtain ⟨g, o, rfl, _⟩ := HRS.out.at2 HP.out
      obtain ⟨q0, _, _, _, _⟩ := pcC5 h0.out HP.out HO1.out.low
      rw [← HSS.out] at q0
      go_wp2_with (fail)
      refine (HS1.out _).mono ?_
      rintro e w1 ⟨v1, rfl, own1, hb1⟩
      have OB1 := Lib.hid (HO1.out.on hb1)
      have RD1 := Lib.hid (Rd.of_own own1)
      clear own1 hb1 q0
      go_wp2_with (at_builtin
                   first
                   | (refine wpList_append_ob rfl _ _ rfl rfl OB1.out rfl RD1.out (by have := HL.out; omega) ?_
                      intro v2 w2 ob2
                      obtain ⟨q0, _, _, _, _⟩ := pcC5 h0.out HP.out ob2.low
                      rw [← HSS.out] at q0
                      have OB2 := Lib.hid ob2
                      clear ob2)
                   | (refine wpList_append_obs rfl _ _ rfl rfl OB2.out rfl (by have := HL.out; simp only [List.length_append]; omega) ?_
                      intro v3 w3 ob3
                      have OB3 := Lib.hid ob3
                      clear ob3 q0))
      refine (HS2.out _).mono ?_
      rintro e w4 ⟨v4, rfl, own4, hb4⟩
      have OB4 := Lib.hid (OB3.out.on hb4)
      have RD4 := Lib.hid (Rd.of_own own4)
      clear own4 hb4
      go_wp2_with (at_builtin
                   refine wpList_append_ob rfl _ _ rfl rfl OB4.out rfl RD4.out (by have := HL.out; simp only [List.length_append]; omega) ?_
                   intro v5 w5 ob5
                   have OB5 := Lib.hid ob5
                   clear ob5)
      refine rfj_loop _ _ _ _ _ _ _ _ _ _ _ _ _ _ _ _ _ _ _ _ _ _ _ _ _ _ _ _ _ _ _ _ _ _ _ _ _ _ _ _ _ _ _ _ _ _ _ _ _ _ _ _ _ _ _ _ _ _ _ _ _ _ _ _ _ _ _ _ _ _ _ _ _ _ _ _ _ _ _ _ _ _ _ _ _ _ _ _ _ _ _ _ _ _ _ _ _ _ _ _ _ _ _ _ _ _ _ _ _ _ _ _ _ _ _ _ _ _ _ _ _ _ _ _ _ _ _ _ _ _ _ _ _ _ _ _ _ _ _ w (some ⟨g, o, none⟩) c l w5 h0 HN i K HKL v5 _ _ (Lib.hid rfl) HT3 OB5 (Lib.hid ?_)
      intro u8 u9 u10 u62 u63 u64 u65 u66 u67 u68 u69 u70 u71 u72 u73 u74 u75 u76 u77 u78 u79 u80 u81 u82 u83 u84 u85 u86 u87 u88 u89 u90 u91 u92 u93 u94 u95 u96 u97 u98 u99 u100 u101 u102 u103 u104 u105 u106 u107 u108 u109 u110 u111 u112 u113 u114 u115 u116 u117 u118 u119 u120 u121 u122 u123 u124 u125 u126 u127 u128 u129 u130 u131 u132 u133 u134 u135 u136 u137 v6 w6 OB6
      go_wp2_with (fail)
      refine ⟨⟨K, n + 1, _, rfl, by go_num, HKL.out.2, ?_, OB6.out, ?_⟩, by have := HLT.out; have := HR1.out; simp [intOf]; omega⟩
      · have h1 := HRU.out
        have h2 := HSU.out
        rw [List.length_cons] at h1
        omega
      · rw [HX.out, HFL.out]
        have h3 : K - i = r := by have := HR1.out; omega
        rw [h3]
        simp only [List.append_assoc]
    · have hd2 : decide (i < l.length) = false := decide_eq_false hlt
      have hd : decide ((i : Int) < l.length) = false := decide_eq_false (by omega)
      have e : i = l.length := by omega
      have hnr : n = (runs l).length := by
        rw [e, List.drop_length, runs] at hsum
        exact hsum
      have HF : Hid (OB w wr u3 (flatR l)) := Lib.hid (by
        rw [hxs, e, List.drop_length, flatR_nil, List.append_nil]
        exact hob)
      have HE := Lib.hid hnr
      clear hnr e hxs hsum hob hl hi hlt
      go_wp2_with (fail)
      rw [HE.out]
      exact HQ.out _ _ _ _ _ _ _ _ _ _ _ _ _ _ _ _ _ _ _ _ _ _ _ _ _ _ _ _ _ _ _ _ _ _ _ _ _ _ _ _ _ _ _ _ _ _ _ _ _ _ _ _ _ _ _ _ _ _ _ _ _ _ _ _ _ _ _ _ _ _ _ _ _ _ _ _ _ _ _ _ _ _ _ _ _ _ _ _ _ _ _ _ _ _ _ _ _ _ _ _ _ _ _ _ _ _ _ _ _ _ _ _ _ _ _ _ _ _ _ _ _ _ _ _ _ _ _ _ _ _ _ _ _ _ _ _ HF
set_option maxRecDepth 100000 in
set_option maxHeartbeats 4000000 in
theorem refForm_any (v : Value) (l : List Pc) (w : World) (h : RsP w v l) (hn : l.length ≤ 1000) (hs : ∀ p ∈ l, p.s.size ≤ 1000) :
    Calls Try.prog 29 #[v] w (Own w 5 (formD l)) := by
  obtain ⟨A, c, rfl, _⟩ := h.form
  have H := Lib.hid h
  have HN := Lib.hid (And.intro hn hs)
  have HT : Hid ((flatR l).length ≤ 1038000) := Lib.hid (flat_len hn hs)
  have HRL := Lib.hid (runs_len l)
  obtain ⟨bs, hbs⟩ : ∃ bs, bs = formD l := ⟨_, rfl⟩
  obtain ⟨n, hnn⟩ : ∃ n, n = (runs l).length := ⟨_, rfl⟩
  obtain ⟨b1, hb1⟩ : ∃ b1, b1 = sh n := ⟨_, rfl⟩
  have HS := Lib.hid (shortC n b1 hb1 (by have := HRL.out; omega))
  have HNI : Hid (n = (runs l).length) := Lib.hid hnn
  have nI : (n : Int) ≤ 1000 := by have := HRL.out; omega
  have HBS : Hid (b1 ++ flatR l = bs) := Lib.hid (by rw [hbs, hb1, hnn]; rfl)
  have hL1 : b1.length ≤ 10 := by rw [hb1]; exact sh_len n
  have HL1 := Lib.hid hL1
  rw [← hbs]
  clear h hn hs hnn hb1 hbs hL1
  go_enter Try.func29, Try.ntmps29
  go_wp2_with (fail)
  refine rfi_loop _ _ _ _ _ _ _ _ _ _ _ _ _ _ _ _ _ _ _ _ _ _ _ _ _ _ _ _ _ _ _ _ _ _ _ _ _ _ _ _ _ _ _ _ _ _ _ _ _ _ _ _ _ _ _ _ _ _ _ _ _ _ _ _ _ _ _ _ _ _ _ _ _ _ _ _ _ _ _ _ _ _ _ _ _ _ _ _ _ _ _ _ _ _ _ _ _ _ _ _ _ _ _ _ _ _ _ _ _ _ _ _ _ _ _ _ _ _ _ _ _ _ _ _ _ _ _ _ _ _ _ _ _ _ _ _ _ _ _ _ w A c l H HN (Lib.hid ?_)
  intro u6 u7 u8 u9 u10 u11 u12 u13 u14 u15 u16 u17 u18 u19 u20 u21 u22 u23 u24 u25 u26 u27 u28 u29 u30 u31 u32 u33 u34 u35 u36 u37 u38 u39 u40 u41 u42 u43 u44 u45 u46 u47 u48 u49 u50 u51 u52 u53 u54 u55 u56 u57 u58 u59 u60 u61 u62 u63 u64 u65 u66 u67 u68 u69 u70 u71 u72 u73 u74 u75 u76 u77 u78 u79 u80 u81 u82 u83 u84 u85 u86 u87 u88 u89 u90 u91 u92 u93 u94 u95 u96 u97 u98 u99 u100 u101 u102 u103 u104 u105 u106 u107 u108 u109 u110 u111 u112 u113 u114 u115 u116 u117 u118 u119 u120 u121 u122 u123 u124 u125 u126 u127 u128 u129 u130 u131 u132 u133 u134 u135 u136 u137 u138 v1 y w1 OB1
  rw [← HNI.out]
  go_wp2_with (fail)
  refine (HS.out _).mono ?_
  rintro e w2 ⟨v2, rfl, own2, hb2⟩
  have OB2 : Hid (OB w w2 v2 b1) := Lib.hid (OB.of_own OB1.out.low own2 hb2)
  have RD2 := Lib.hid ((OB1.out.on hb2).rd)
  clear own2 hb2
  go_wp2_with (at_builtin
               refine wpList_append_ob rfl _ _ rfl rfl OB2.out rfl RD2.out (by have := HT.out; have := HL1.out; omega) ?_
               intro v3 w3 ob3
               have OB3 := Lib.hid ob3
               clear ob3)
  go_ret
  rw [← HBS.out]
  exact ⟨v3, rfl, OB3.out.own, OB3.out.low⟩
end Go.Proofs.Ytcicdbhffkpldaa

/- The fourteenth reference's Lay, of pieces that may be laid. Condition: a row of such pieces. -/
namespace Go.Proofs.Ytcicdbhffkpldaa
open Go.RowKit

def lenV : Value → Nat
  | .slice _ n _ => n
  | _ => 0
def RlaRel (w0 : World) (bs : List UInt8) (R : Nat) (x : Value) (wx : World) : Prop :=
  ∃ (A : Option Addr) (n c k : Nat), x = .slice A n c ∧ n = bs.length + k ∧ n ≤ R ∧ OB w0 wx (.slice A n c) (bs ++ List.replicate k 0)
noncomputable def body_rla : Code := (((Try.f15.body.map loopsOf).getD [])[0]?).getD .skip
set_option maxRecDepth 100000 in
set_option maxHeartbeats 4000000 in
theorem rla_loop (c1 c2 c3 c5 c6 c7 c8 c9 c10 c11 c12 c13 c14 c15 c16 c17 c18 c19 c20 c21 : Value) (w0 : World) (A : Option Addr) (c : Nat) (l : List Pc) (w : World) (h0 : Hid (RsP w0 (.slice A l.length c) l)) (hn : Hid (l.length ≤ 1000 ∧ ∀ p ∈ l, p.s.size ≤ 1000)) (v0 : Value) (bs : List UInt8) (hR : Hid (bs.length ≤ roomD l ∧ roomD l ≤ 4096)) (hob : Hid (OB w0 w v0 bs)) {Q : Exit → Act → World → Prop}
    (HQ : Hid (∀ (u13 u14 u15 u16 u17 u18 u19 u20 v' : Value) (w' : World), Hid (OB w0 w' v' (bs ++ List.replicate (roomD l - bs.length) 0)) → Q (.exit 0) ⟨List.toArray ((.slice A l.length c) :: c1 :: c2 :: c3 :: v' :: c5 :: c6 :: c7 :: c8 :: c9 :: c10 :: c11 :: c12 :: u13 :: u14 :: u15 :: u16 :: u17 :: u18 :: u19 :: u20 :: c21 :: []), []⟩ w')) :
    (Code.loop body_rla).wp Try.prog Q ⟨List.toArray ((.slice A l.length c) :: c1 :: c2 :: c3 :: v0 :: c5 :: c6 :: c7 :: c8 :: c9 :: c10 :: c11 :: c12 :: c13 :: c14 :: c15 :: c16 :: c17 :: c18 :: c19 :: c20 :: c21 :: []), []⟩ w := by
  obtain ⟨R, hRR⟩ : ∃ R, R = roomD l := ⟨_, rfl⟩
  have HRM : Hid (∀ W, Below w0.heap.size w0 W → Calls Try.prog 12 #[.slice A l.length c] W fun e W' => e = .returned (.int .i64 (R : Int)) ∧ ∃ m, W' = W.drewN m) := Lib.hid fun W hb => by
    rw [hRR]
    exact refRoom_any _ l W (h0.out.below hb) hn.out.1 hn.out.2
  rw [← hRR] at hR HQ
  clear hRR h0 hn
  unfold body_rla
  conv => arg 2; arg 1; whnf
  go_loopw [4] (fun x wx => RlaRel w0 bs R x wx) (fun x _ => R - lenV x)
  case atStart =>
    have h := hob.out
    obtain ⟨A', c', rfl, _⟩ := h.rd.form
    exact ⟨A', _, c', 0, rfl, by simp, hR.out.1, by rw [List.replicate_zero, List.append_nil]; exact h⟩
  case round =>
    obtain ⟨A', n, c', k, rfl, hnk, hnR, hobk⟩ := hrel
    have HOB := Lib.hid hobk
    have HN := Lib.hid (And.intro hnk hnR)
    have nI : (n : Int) ≤ 4096 := by have := hR.out.2; omega
    by_cases hlt : n < R
    · have nR : (n : Int) < (R : Int) := by omega
      have HLT := Lib.hid hlt
      clear hnk hnR hobk hlt
      go_wp2_with (fail)
      refine (HRM.out _ HOB.out.low).mono ?_
      rintro e w1 ⟨rfl, m, rfl⟩
      have OB1 := Lib.hid ((HOB.out.drewN m).on ((Below.refl _ _).alloc (Nat.le_refl _) (.cells #[Value.int .u8 0] 5)))
      have hbd : (bs ++ List.replicate k (0 : UInt8)).length + [(0 : UInt8)].length ≤ 140737488355328 := by
        have := HN.out
        have := hR.out.2
        simp
        omega
      have HBD := Lib.hid hbd
      clear hbd
      go_wp2_with (at_builtin
                   refine wpList_append_ob rfl _ _ rfl rfl OB1.out rfl (rd_one (b := 0) rfl) HBD.out ?_
                   intro v2 w2 ob2
                   have OB2 := Lib.hid ob2
                   obtain ⟨A2, c2, rfl, _⟩ := ob2.rd.form
                   clear ob2)
      have hlen : (bs ++ List.replicate k (0 : UInt8) ++ [0]).length = bs.length + (k + 1) := by simp
      have e : bs ++ List.replicate k (0 : UInt8) ++ [0] = bs ++ List.replicate (k + 1) 0 := by rw [List.append_assoc, List.replicate_succ']
      have h5 := OB2.out
      rw [hlen, e] at h5
      refine ⟨⟨A2, bs.length + (k + 1), c2, k + 1, rfl, rfl, by have := HN.out; have := HLT.out; omega, h5⟩, ?_⟩
      have := HLT.out
      have := HN.out
      simp only [lenV]
      omega
    · have nR : decide ((n : Int) < (R : Int)) = false := decide_eq_false (by omega)
      have nR2 : decide (n < R) = false := decide_eq_false hlt
      have e : k = R - bs.length := by omega
      have HO : Hid (OB w0 wr (.slice A' n c') (bs ++ List.replicate (R - bs.length) 0)) := Lib.hid (e ▸ hobk)
      clear e hnk hnR hobk hlt
      go_wp2_with (fail)
      refine (HRM.out _ HO.out.low).mono ?_
      rintro e w1 ⟨rfl, m, rfl⟩
      go_wp2_with (fail)
      exact HQ.out _ _ _ _ _ _ _ _ _ _ (Lib.hid (HO.out.drewN m))
theorem refForm_ob (v : Value) (l : List Pc) (w0 w : World) (hw : Below w0.heap.size w0 w) (h : RsP w0 v l) (hn : l.length ≤ 1000) (hs : ∀ p ∈ l, p.s.size ≤ 1000) (bs : List UInt8) (hb : bs = formD l) :
    Calls Try.prog 29 #[v] w fun e w' => ∃ u, e = .returned u ∧ OB w0 w' u bs := by
  refine (refForm_any v l w (h.below hw) hn hs).mono ?_
  rintro e w' ⟨u, rfl, own, b⟩
  exact ⟨u, rfl, OB.of_own hw (hb ▸ own) b⟩
set_option maxRecDepth 100000 in
set_option maxHeartbeats 4000000 in
theorem refLayD_any (v : Value) (l : List Pc) (w : World) (h : RsP w v l) (hm : MayLay l) :
    Calls Try.prog 15 #[v] w (Own w 5 (layD l)) := by
  obtain ⟨A, c, rfl, _⟩ := h.form
  have H := Lib.hid h
  have HM := Lib.hid hm
  have HN : Hid (l.length ≤ 1000 ∧ ∀ p ∈ l, p.s.size ≤ 1000) := Lib.hid ⟨by have := hm.few; omega, fun p hp => by have := (hm.may p hp).2; omega⟩
  obtain ⟨bs, hbs⟩ : ∃ bs, bs = formD l := ⟨_, rfl⟩
  obtain ⟨n, hnn⟩ : ∃ n, n = bs.length := ⟨_, rfl⟩
  obtain ⟨b1, hb1⟩ : ∃ b1, b1 = leB 2 n := ⟨_, rfl⟩
  have hfit := hm.fits
  rw [← hbs] at hfit
  have hroom := hm.room
  have nI : (n : Int) ≤ 4094 := by omega
  have HF := Lib.hid (formC n b1 hb1 (by omega))
  have HFM := Lib.hid (refForm_ob _ l w w (Below.refl _ _) h HN.out.1 HN.out.2 bs hbs)
  have hl1 : b1.length = 2 := by rw [hb1, leB_length]
  have HR : Hid ((b1 ++ bs).length ≤ roomD l ∧ roomD l ≤ 4096) := Lib.hid ⟨by rw [List.length_append]; omega, hroom⟩
  have HL : Hid (layD l = (b1 ++ bs) ++ List.replicate (roomD l - (b1 ++ bs).length) 0) := Lib.hid (by
    unfold layD
    rw [← hbs, ← hnn, ← hb1, List.length_append, hl1, List.append_assoc, Nat.sub_sub, ← hnn])
  have HL1 := Lib.hid (And.intro hl1 hnn)
  rw [HL.out]
  clear h hm hfit hroom hl1 hbs hb1
  go_enter Try.func15, Try.ntmps15
  go_wp2_with (fail)
  refine HFM.out.mono ?_
  rintro e w1 ⟨v1, rfl, ob1⟩
  have OB1 := Lib.hid ob1
  obtain ⟨A1, c1, rfl, _⟩ := ob1.rd.form
  rw [← hnn] at OB1 ⊢
  clear ob1 hnn
  go_wp2_with (fail)
  refine (HF.out _).mono ?_
  rintro e w2 ⟨v2, rfl, own2, hb2⟩
  have OB2 : Hid (OB w w2 v2 b1) := Lib.hid (OB.of_own OB1.out.low own2 hb2)
  have RD2 := Lib.hid ((OB1.out.on hb2).rd)
  clear own2 hb2
  go_wp2_with (at_builtin
               refine wpList_append_ob rfl _ _ rfl rfl OB2.out rfl RD2.out (by have := HR.out; rw [List.length_append] at this; omega) ?_
               intro v3 w3 ob3
               have OB3 := Lib.hid ob3
               clear ob3)
  refine rla_loop _ _ _ _ _ _ _ _ _ _ _ _ _ _ _ _ _ _ _ _ w A c l w3 H HN v3 _ HR OB3 (Lib.hid ?_)
  intro u13 u14 u15 u16 u17 u18 u19 u20 v4 w4 OB4
  go_wp2_with (fail)
  go_ret
  exact ⟨v4, rfl, OB4.out.own, OB4.out.low⟩
end Go.Proofs.Ytcicdbhffkpldaa
