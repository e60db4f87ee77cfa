/- JournalKeeps' inner loop: rows appended one behind the other, up to one that the fuse cuts off. Premises: the contracts. -/
import Derived.Test.YtbodiioemohenaaDoorPart18
import Derived.Test.YtbodiioemohenaaDoorPart19
namespace Go.Proofs.YtbodiioemohenaaDoor
open Go.RowKit

def JkaRel {DC : DiskW} (JC : JournC DC) (w : World) (sp dp : Value) (R : List (Value × List UInt8)) (S0 : DS) (m : Nat) (img : List UInt8) (f : Nat) (l : List (List UInt8)) (v q : Value) (W : World) : Prop :=
  ∃ (k : Nat) (st : JS) (S : DS), v = .int .i64 (k : Int) ∧ q = .int .i64 (k : Int) ∧ JKeep JC w sp dp st S R W ∧ JIn S0 m img f l k st S
noncomputable def body_jka : Code := (((Tryd.f3.body.map loopsOf).getD [])[1]?).getD .skip
set_option maxRecDepth 100000 in
set_option maxHeartbeats 4000000 in
theorem jka_loop (DC : DiskW) (JC : JournC DC) (c0 c1 c2 c3 c4 c5 c6 c8 c9 c10 c13 c14 c18 c19 c20 c21 c22 c23 c24 c25 c26 c27 c28 c29 c30 c31 c32 c33 c34 c35 c36 c37 c38 c39 c40 c41 c42 c43 c44 c45 c46 c47 c48 c49 c50 c51 c52 c53 c54 c55 c56 c57 c58 c59 c60 c61 c62 c63 c64 c65 c66 c67 c68 c69 c70 c71 c72 c73 c74 c75 c76 c77 c78 c79 c80 c81 c82 c83 c84 c85 c86 c87 c88 c89 c90 c91 c92 c93 c94 c95 c96 c97 c98 c99 c100 c101 c102 c103 c104 c105 c106 c107 c108 c109 c110 c111 c112 c113 c114 c115 c116 c117 c118 c119 c120 c121 c122 c123 c124 c125 c126 c127 c128 c129 c130 c131 c132 c133 c134 c135 c136 c137 c138 c139 c140 c141 c142 c143 c144 c145 c146 c147 c148 c149 c150 c151 c152 c153 c154 c155 c156 c157 c158 c159 c160 c161 c162 c163 c164 c165 c166 c167 c168 c169 c170 c171 c172 c173 c174 c175 c176 c177 c178 c179 c180 c181 c182 c183 c184 c185 c186 c187 c188 c189 c190 c191 c192 c193 c194 c195 c196 c197 c198 c199 c200 c201 c202 c203 c204 : Value) (l : List (List UInt8)) (Al : Option Addr) (cl : Nat) (sp dp : Value) (w W0 : World) (R : List (Value × List UInt8)) (S0 S1 : DS) (st1 : JS) (m f : Nat) (img : List UInt8) (hs : Hid (Salts w)) (hl : Hid (RsA w (.slice Al l.length cl) l)) (hn : Hid (l.length ≤ 5 ∧ m < 1000000 ∧ S0.ops ≤ 40000)) (h0 : Hid (JKeep JC w sp dp st1 S1 R W0)) (h1 : Hid (JIn S0 m img f l 0 st1 S1)) {Q : Exit → Act → World → Prop}
    (HQ : Hid (∀ (u6 u17 u80 u81 u82 u83 u84 u85 u86 u87 u88 u89 u90 u91 u92 u93 u94 u95 u96 u97 u98 u99 u100 u101 u102 u103 u104 u105 : Value) (k : Nat) (S : DS) (W : World), Hid (DKeep DC w dp S R W ∧ JOut S0 m img f l k S) → Q (.exit 2) ⟨List.toArray (c0 :: c1 :: c2 :: c3 :: c4 :: c5 :: u6 :: dp :: c8 :: c9 :: c10 :: (.slice Al l.length cl) :: sp :: c13 :: c14 :: (.int .i64 (f : Int)) :: (.int .i64 (k : Int)) :: u17 :: c18 :: c19 :: c20 :: c21 :: c22 :: c23 :: c24 :: c25 :: c26 :: c27 :: c28 :: c29 :: c30 :: c31 :: c32 :: c33 :: c34 :: c35 :: c36 :: c37 :: c38 :: c39 :: c40 :: c41 :: c42 :: c43 :: c44 :: c45 :: c46 :: c47 :: c48 :: c49 :: c50 :: c51 :: c52 :: c53 :: c54 :: c55 :: c56 :: c57 :: c58 :: c59 :: c60 :: c61 :: c62 :: c63 :: c64 :: c65 :: c66 :: c67 :: c68 :: c69 :: c70 :: c71 :: c72 :: c73 :: c74 :: c75 :: c76 :: c77 :: c78 :: c79 :: u80 :: u81 :: u82 :: u83 :: u84 :: u85 :: u86 :: u87 :: u88 :: u89 :: u90 :: u91 :: u92 :: u93 :: u94 :: u95 :: u96 :: u97 :: u98 :: u99 :: u100 :: u101 :: u102 :: u103 :: u104 :: u105 :: c106 :: c107 :: c108 :: c109 :: c110 :: c111 :: c112 :: c113 :: c114 :: c115 :: c116 :: c117 :: c118 :: c119 :: c120 :: c121 :: c122 :: c123 :: c124 :: c125 :: c126 :: c127 :: c128 :: c129 :: c130 :: c131 :: c132 :: c133 :: c134 :: c135 :: c136 :: c137 :: c138 :: c139 :: c140 :: c141 :: c142 :: c143 :: c144 :: c145 :: c146 :: c147 :: c148 :: c149 :: c150 :: c151 :: c152 :: c153 :: c154 :: c155 :: c156 :: c157 :: c158 :: c159 :: c160 :: c161 :: c162 :: c163 :: c164 :: c165 :: c166 :: c167 :: c168 :: c169 :: c170 :: c171 :: c172 :: c173 :: c174 :: c175 :: c176 :: c177 :: c178 :: c179 :: c180 :: c181 :: c182 :: c183 :: c184 :: c185 :: c186 :: c187 :: c188 :: c189 :: c190 :: c191 :: c192 :: c193 :: c194 :: c195 :: c196 :: c197 :: c198 :: c199 :: c200 :: c201 :: c202 :: c203 :: c204 :: []), []⟩ W))
    (HR : Hid (∀ (a : Act) (W : World), a.tmps.getD 6 undef = .bool true → a.defers = [] → Below w.heap.size w W → Q .ret a W)) :
    (Code.loop body_jka).wp Tryd.prog Q ⟨List.toArray (c0 :: c1 :: c2 :: c3 :: c4 :: c5 :: c6 :: dp :: c8 :: c9 :: c10 :: (.slice Al l.length cl) :: sp :: c13 :: c14 :: (.int .i64 (f : Int)) :: (.int .i64 0) :: (.int .i64 0) :: c18 :: c19 :: c20 :: c21 :: c22 :: c23 :: c24 :: c25 :: c26 :: c27 :: c28 :: c29 :: c30 :: c31 :: c32 :: c33 :: c34 :: c35 :: c36 :: c37 :: c38 :: c39 :: c40 :: c41 :: c42 :: c43 :: c44 :: c45 :: c46 :: c47 :: c48 :: c49 :: c50 :: c51 :: c52 :: c53 :: c54 :: c55 :: c56 :: c57 :: c58 :: c59 :: c60 :: c61 :: c62 :: c63 :: c64 :: c65 :: c66 :: c67 :: c68 :: c69 :: c70 :: c71 :: c72 :: c73 :: c74 :: c75 :: c76 :: c77 :: c78 :: c79 :: c80 :: c81 :: c82 :: c83 :: c84 :: c85 :: c86 :: c87 :: c88 :: c89 :: c90 :: c91 :: c92 :: c93 :: c94 :: c95 :: c96 :: c97 :: c98 :: c99 :: c100 :: c101 :: c102 :: c103 :: c104 :: c105 :: c106 :: c107 :: c108 :: c109 :: c110 :: c111 :: c112 :: c113 :: c114 :: c115 :: c116 :: c117 :: c118 :: c119 :: c120 :: c121 :: c122 :: c123 :: c124 :: c125 :: c126 :: c127 :: c128 :: c129 :: c130 :: c131 :: c132 :: c133 :: c134 :: c135 :: c136 :: c137 :: c138 :: c139 :: c140 :: c141 :: c142 :: c143 :: c144 :: c145 :: c146 :: c147 :: c148 :: c149 :: c150 :: c151 :: c152 :: c153 :: c154 :: c155 :: c156 :: c157 :: c158 :: c159 :: c160 :: c161 :: c162 :: c163 :: c164 :: c165 :: c166 :: c167 :: c168 :: c169 :: c170 :: c171 :: c172 :: c173 :: c174 :: c175 :: c176 :: c177 :: c178 :: c179 :: c180 :: c181 :: c182 :: c183 :: c184 :: c185 :: c186 :: c187 :: c188 :: c189 :: c190 :: c191 :: c192 :: c193 :: c194 :: c195 :: c196 :: c197 :: c198 :: c199 :: c200 :: c201 :: c202 :: c203 :: c204 :: []), []⟩ W0 := by
  unfold body_jka
  conv => arg 2; arg 1; whnf
  go_loopw [16, 17] (fun v q wx => JkaRel JC w sp dp R S0 m img f l v q wx) (fun _ q _ => l.length - (intOf q).toNat)
  case atStart => exact ⟨0, st1, S1, rfl, rfl, h0.out, h1.out⟩
  case round =>
    obtain ⟨k, st, S, rfl, rfl, hkp, hin⟩ := hrel
    have nI : (l.length : Int) ≤ 5 := by have := hn.out.1; omega
    have hk5 : k ≤ 5 := by have := hn.out.1; have := hin.k_le; omega
    have HIN := Lib.hid hin
    by_cases hlt : k < l.length
    · have hJ : (k : Int) < (l.length : Int) := by omega
      have hI : decide ((k : Int) < (l.length : Int)) = true := decide_eq_true hJ
      rcases hin.way with ⟨hf0, hst, hon, hend⟩ | ⟨hf0, hno⟩
      · subst hf0 hst
        obtain ⟨A, c, e, hm0, hrow⟩ := hl.out.ex
        injection e with e1 _ e2
        obtain ⟨g, o, ui, hA, hg, cui, hui, h9⟩ := hrow k hlt
        obtain rfl : Al = some ⟨g, o, none⟩ := e1.trans hA
        obtain ⟨bs, hbs⟩ : ∃ bs, bs = l[k] := ⟨_, rfl⟩
        rw [← hbs] at hui
        obtain ⟨Ab, kb, rfl, hk1, hk2, hk3⟩ := hui.form
        have cu := (hkp.old.cell (p := ⟨g, o + k, none⟩) hg).trans cui
        have HUI := Lib.hid hui
        have HBS : Hid (∃ h : k < l.length, bs = l[k]) := Lib.hid ⟨hlt, hbs⟩
        have HK := Lib.hid hkp
        have HOL := Lib.hid hkp.old
        have HON := Lib.hid (And.intro hon hend)
        unfold maxLen at hk2
        have lI : (bs.length : Int) ≤ 9223372036854775807 := by omega
        by_cases hg3 : 300 < bs.length
        · have gI : decide ((300 : Int) < (bs.length : Int)) = true := decide_eq_true (by omega)
          clear hkp hin hon hend hlt hrow e1 e2 hA hg cui hui h9 hbs hk1 hk2 hk3 hg3 hm0
          go_wp2_with (fail)
          refine (awakeJ_any DC JC _ (hs.out.under HOL.out hs.out.1)).mono ?_
          rintro e w1 ⟨rfl, b1⟩
          have B1 := Lib.hid (HOL.out.trans (b1.mono HOL.out.size))
          clear b1
          go_wp2_with (fail)
          exact HR.out _ _ rfl rfl B1.out
        · have gI : decide ((300 : Int) < (bs.length : Int)) = false := decide_eq_false (by omega)
          have HG3 : Hid (bs.length ≤ 300) := Lib.hid (by omega)
          clear hkp hin hon hend hlt hrow e1 e2 hA hg cui hui h9 hbs hk1 hk2 hk3 hg3 hm0
          go_wp2_with (fail)
          obtain ⟨hon, hend⟩ := HON.out
          have hop := HIN.out.ops
          have hc3 := cntR_300 HG3.out
          obtain ⟨n5, nm, no⟩ := hn.out
          refine (jk_append HK.out HUI.out (by have := HG3.out; omega) (by omega) (by omega) (by omega) hon.calm.on (by omega)).mono ?_
          rintro e w2 ⟨rfl, st', hst', hk2⟩
          obtain ⟨P, hP⟩ : ∃ P, layS S (endR 512 (l.take k)) (partsR bs (m + 1) k) = P := ⟨_, rfl⟩
          rw [hP] at hst' hk2 ⊢
          obtain ⟨hlt, e3⟩ := HBS.out
          have HK2 := Lib.hid hk2
          by_cases he : P.2 = 0
          · have hnx : JIn S0 m img 0 l (k + 1) st' P.1 := by
              have h := HIN.out.next (st' := st') rfl n5 hlt (by rw [← e3]; exact HG3.out) nm (by rw [← e3, hP]; exact he) (by rw [← e3, hP]; exact hst')
              rw [← e3, hP] at h
              exact h
            have HNX := Lib.hid hnx
            have eI : ((P.2 : Int) != 0) = false := by rw [he]; rfl
            clear hon hend hop hc3 n5 nm no hst' hk2 hlt e3 he hnx hP
            go_wp2_with (fail)
            obtain ⟨hlt, _⟩ := HBS.out
            refine ⟨?_, by simp [intOf]; omega⟩
            repeat apply Exists.intro
            exact ⟨⟨k + 1, st', P.1, by go_num, by go_num, HK2.out, HNX.out⟩, rfl⟩
          · have hnx : JOut S0 m img 0 l k P.1 := by
              have h := HIN.out.cut rfl n5 hlt (by rw [← e3]; exact HG3.out) nm (by rw [← e3, hP]; exact he)
              rw [← e3, hP] at h
              exact h
            have HNX : Hid (DKeep DC w dp P.1 R w2 ∧ JOut S0 m img 0 l k P.1) := Lib.hid ⟨hk2.disk, hnx⟩
            have eI : ((P.2 : Int) != 0) = true := by rw [bne_iff_ne]; omega
            clear hon hend hop hc3 n5 nm no hst' hk2 hlt e3 he hnx hP
            go_wp2_with (fail)
            exact HQ.out _ _ _ _ _ _ _ _ _ _ _ _ _ _ _ _ _ _ _ _ _ _ _ _ _ _ _ _ k _ _ HNX
      · have fI : ((f : Int) == 0) = false := by rw [hf0]; rfl
        have HE : Hid (DKeep DC w dp S R wr ∧ JOut S0 m img f l k S) := Lib.hid ⟨hkp.disk, hin.stop hn.out.1 (.inl (by rw [hf0]; decide))⟩
        clear hkp hin hlt hf0 hno
        go_wp2_with (fail)
        exact HQ.out _ _ _ _ _ _ _ _ _ _ _ _ _ _ _ _ _ _ _ _ _ _ _ _ _ _ _ _ k S _ HE
    · have hJ : ¬ (k : Int) < (l.length : Int) := by omega
      have hI : decide ((k : Int) < (l.length : Int)) = false := decide_eq_false hJ
      have HE : Hid (DKeep DC w dp S R wr ∧ JOut S0 m img f l k S) := Lib.hid ⟨hkp.disk, hin.stop hn.out.1 (.inr (by have := hin.k_le; omega))⟩
      clear hkp hin hlt
      go_wp2_with (fail)
      exact HQ.out _ _ _ _ _ _ _ _ _ _ _ _ _ _ _ _ _ _ _ _ _ _ _ _ _ _ _ _ k S _ HE
end Go.Proofs.YtbodiioemohenaaDoor
