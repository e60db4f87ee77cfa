/- SlotWipes' first loop: rows saved one behind the other, without a fuse. Premises: the contracts. -/
import Derived.Test.YtnaccngcpjkmbaaDoorPart17
import Derived.Test.YtnaccngcpjkmbaaDoorSlWipe
namespace Go.Proofs.YtnaccngcpjkmbaaDoor
open Go.RowKit

/-- A save without a fuse. -/
theorem save_plain {S : DS} (hc : Calm S) (h0 : S.fuse = 0) {i : Nat} (hm : mostS S 0 6 ≤ i) (hi : i ≤ 8) {bs : List UInt8} (hb : bs.length ≤ 600) :
    Calm (saveS fp8 S 0 6 bs false).1 ∧ (saveS fp8 S 0 6 bs false).1.fuse = 0 ∧ mostS (saveS fp8 S 0 6 bs false).1 0 6 ≤ i + 1 ∧ (saveS fp8 S 0 6 bs false).1.ops ≤ S.ops + 7 := by
  obtain ⟨a1, a2⟩ := save_none (wiped := false) fp8_length hc.on h0 (a := 0) (k := 6) (bs := bs) (by decide) (by decide) (by omega)
  obtain ⟨d1, d2, d3, _⟩ := save_done (wiped := false) fp8_length hc (a := 0) (k := 6) (bs := bs) (by decide) (by decide) (by omega) (by omega) a1
  obtain ⟨ho, _⟩ := save_cases (wiped := false) fp8_length hc (a := 0) (k := 6) (bs := bs) (by decide) (by decide) (by omega)
  exact ⟨d1, a2, by omega, by omega⟩
def SpaRel {DC : DiskW} (SC : SlotC DC) (n : Nat) (pp dp : Value) (w : World) (v : Value) (W : World) : Prop :=
  ∃ (i : Nat) (S : DS), v = .int .i64 (i : Int) ∧ i ≤ n ∧ Keep SC w pp dp S (.slice none 0 0) [] W ∧ Calm S ∧ S.fuse = 0 ∧ mostS S 0 6 ≤ i ∧ S.ops ≤ 10 * i
noncomputable def body_spa : Code := (((Tryd.f4.body.map loopsOf).getD [])[0]?).getD .skip
set_option maxRecDepth 100000 in
set_option maxHeartbeats 4000000 in
theorem spa_loop (DC : DiskW) (SC : SlotC DC) (c1 c2 c3 c4 c7 c9 c10 c11 c12 c13 c14 c15 c16 c17 c18 c19 c20 c21 c22 c23 c24 c25 c26 c27 c28 c29 c30 c31 c32 c33 c34 c35 c36 c37 c38 c39 c40 c41 c42 c43 c44 c45 c46 c47 c48 c49 c50 c51 c52 c53 c54 c55 c56 c57 c58 c59 c60 c61 c62 c63 c64 c65 c66 c67 c68 c69 c70 c71 c72 c73 c74 c75 c76 c77 c78 c79 c80 c81 c82 c83 c84 c85 c86 c87 c88 c89 c90 c91 c92 c93 c94 c95 c96 c97 c98 c99 c100 c101 c102 c103 c104 c105 c106 c107 c108 c109 c110 c111 c112 c113 c114 c115 c116 c117 c118 c119 c120 c121 c122 c123 c124 c125 c126 c127 c128 : Value) (xss : List (List UInt8)) (Al : Option Addr) (cl : Nat) (X : Addr) (dp : Value) (w W0 : World) (hs : Hid (Salts w)) (hl : Hid (RsA w (.slice Al xss.length cl) xss)) (hn : Hid (xss.length ≤ 8)) (h0 : Hid (Keep SC w (.pointer (some X)) dp newS (.slice none 0 0) [] W0)) {Q : Exit → Act → World → Prop}
    (HQ : Hid (∀ (u4 u37 u38 u39 u40 u41 u42 u43 u44 u45 u46 u47 u48 u49 u50 u51 u52 u53 u54 u55 v : Value) (S : DS) (W : World), Hid (Keep SC w (.pointer (some X)) dp S (.slice none 0 0) [] W ∧ Calm S ∧ S.fuse = 0 ∧ mostS S 0 6 ≤ 8 ∧ S.ops ≤ 80) → Q (.exit 0) ⟨List.toArray ((.slice Al xss.length cl) :: c1 :: c2 :: c3 :: u4 :: dp :: (.pointer (some X)) :: c7 :: v :: c9 :: c10 :: c11 :: c12 :: c13 :: c14 :: c15 :: c16 :: c17 :: c18 :: c19 :: c20 :: c21 :: c22 :: c23 :: c24 :: c25 :: c26 :: c27 :: c28 :: c29 :: c30 :: c31 :: c32 :: c33 :: c34 :: c35 :: c36 :: u37 :: u38 :: u39 :: u40 :: u41 :: u42 :: u43 :: u44 :: u45 :: u46 :: u47 :: u48 :: u49 :: u50 :: u51 :: u52 :: u53 :: u54 :: u55 :: c56 :: c57 :: c58 :: c59 :: c60 :: c61 :: c62 :: c63 :: c64 :: c65 :: c66 :: c67 :: c68 :: c69 :: c70 :: c71 :: c72 :: c73 :: c74 :: c75 :: c76 :: c77 :: c78 :: c79 :: c80 :: c81 :: c82 :: c83 :: c84 :: c85 :: c86 :: c87 :: c88 :: c89 :: c90 :: c91 :: c92 :: c93 :: c94 :: c95 :: c96 :: c97 :: c98 :: c99 :: c100 :: c101 :: c102 :: c103 :: c104 :: c105 :: c106 :: c107 :: c108 :: c109 :: c110 :: c111 :: c112 :: c113 :: c114 :: c115 :: c116 :: c117 :: c118 :: c119 :: c120 :: c121 :: c122 :: c123 :: c124 :: c125 :: c126 :: c127 :: c128 :: []), []⟩ W))
    (HR : Hid (∀ (a : Act) (W : World), a.tmps.getD 4 undef = .bool true → a.defers = [] → Below w.heap.size w W → Q .ret a W)) :
    (Code.loop body_spa).wp Tryd.prog Q ⟨List.toArray ((.slice Al xss.length cl) :: c1 :: c2 :: c3 :: c4 :: dp :: (.pointer (some X)) :: c7 :: (.int .i64 0) :: c9 :: c10 :: c11 :: c12 :: c13 :: c14 :: c15 :: c16 :: c17 :: c18 :: c19 :: c20 :: c21 :: c22 :: c23 :: c24 :: c25 :: c26 :: c27 :: c28 :: c29 :: c30 :: c31 :: c32 :: c33 :: c34 :: c35 :: c36 :: c37 :: c38 :: c39 :: c40 :: c41 :: c42 :: c43 :: c44 :: c45 :: c46 :: c47 :: c48 :: c49 :: c50 :: c51 :: c52 :: c53 :: c54 :: c55 :: c56 :: c57 :: c58 :: c59 :: c60 :: c61 :: c62 :: c63 :: c64 :: c65 :: c66 :: c67 :: c68 :: c69 :: c70 :: c71 :: c72 :: c73 :: c74 :: c75 :: c76 :: c77 :: c78 :: c79 :: c80 :: c81 :: c82 :: c83 :: c84 :: c85 :: c86 :: c87 :: c88 :: c89 :: c90 :: c91 :: c92 :: c93 :: c94 :: c95 :: c96 :: c97 :: c98 :: c99 :: c100 :: c101 :: c102 :: c103 :: c104 :: c105 :: c106 :: c107 :: c108 :: c109 :: c110 :: c111 :: c112 :: c113 :: c114 :: c115 :: c116 :: c117 :: c118 :: c119 :: c120 :: c121 :: c122 :: c123 :: c124 :: c125 :: c126 :: c127 :: c128 :: []), []⟩ W0 := by
  unfold body_spa
  conv => arg 2; arg 1; whnf
  go_loopw [8] (fun v wx => SpaRel SC xss.length (.pointer (some X)) dp w v wx) (fun v _ => xss.length - (intOf v).toNat)
  case atStart => exact ⟨0, newS, rfl, Nat.zero_le _, h0.out, calm_new, rfl, by rw [most_new]; exact Nat.le_refl _, Nat.le_refl _⟩
  case round =>
    obtain ⟨i, S, rfl, hi, hkp, hcm, hfu, hmo, hop⟩ := hrel
    have nI : (xss.length : Int) ≤ 8 := by have := hn.out; omega
    by_cases hlt : i < xss.length
    · have hI : (i : Int) < xss.length := by omega
      obtain ⟨A, c, e, hm0, hrow⟩ := hl.out.ex
      injection e with e1 _ e2
      obtain ⟨g, o, ui, hA, hg, cui, hui, h9⟩ := hrow i hlt
      obtain rfl : Al = some ⟨g, o, none⟩ := e1.trans hA
      obtain ⟨bs, hbs⟩ : ∃ bs, bs = xss[i] := ⟨_, rfl⟩
      rw [← hbs] at hui
      obtain ⟨Ab, kb, rfl, hk1, hk2, hk3⟩ := hui.form
      have cu := (hkp.old.cell (p := ⟨g, o + i, none⟩) hg).trans cui
      have HUI := Lib.hid hui
      have HLT := Lib.hid hlt
      have HK := Lib.hid hkp
      have HOL := Lib.hid hkp.old
      have HCM := Lib.hid (And.intro hcm (And.intro hfu (And.intro hmo hop)))
      unfold maxLen at hk2
      have lI : (bs.length : Int) ≤ 9223372036854775807 := by omega
      by_cases hg6 : 600 < bs.length
      · have gI : decide ((600 : Int) < (bs.length : Int)) = true := decide_eq_true (by omega)
        clear hkp hcm hfu hmo hop hi hlt hrow e1 e2 hA hg cui hui h9 hbs hk1 hk2 hk3 hg6 hm0
        go_wp2_with (fail)
        refine (awakeS_any DC SC _ (hs.out.under HOL.out hs.out.1)).mono ?_
        rintro e w1 ⟨rfl, b1⟩
        have B1 := Lib.hid (HOL.out.trans (b1.mono HOL.out.size))
        clear b1
        go_wp2_with (fail)
        exact HR.out _ _ rfl rfl B1.out
      · have gI : decide ((600 : Int) < (bs.length : Int)) = false := decide_eq_false (by omega)
        have HG6 : Hid (bs.length ≤ 600) := Lib.hid (by omega)
        have i8 : i ≤ 8 := by have := hn.out; omega
        have HI8 := Lib.hid i8
        clear hkp hcm hfu hmo hop hi hlt hrow e1 e2 hA hg cui hui h9 hbs hk1 hk2 hk3 hg6 hm0 i8
        go_wp2_with (fail)
        obtain ⟨hc, hf, hm, ho⟩ := HCM.out
        have i8 := HI8.out
        refine (keep_save HK.out hs.out HUI.out HG6.out hc.on (by omega) (by omega)).mono ?_
        rintro e w2 ⟨n2, rfl, hk2⟩
        have HS := Lib.hid (save_plain hc hf hm i8 HG6.out)
        have K2 := Lib.hid hk2
        have HO := Lib.hid ho
        clear hc hf hm ho i8 hk2
        go_wp2_with (fail)
        have hlt := HLT.out
        obtain ⟨s1, s2, s3, s4⟩ := HS.out
        have ho := HO.out
        exact ⟨⟨i + 1, _, by go_num, by omega, K2.out, s1, s2, s3, by omega⟩, by simp [intOf]; omega⟩
    · obtain rfl : i = xss.length := by omega
      have HE : Hid (Keep SC w (.pointer (some X)) dp S (.slice none 0 0) [] wr ∧ Calm S ∧ S.fuse = 0 ∧ mostS S 0 6 ≤ 8 ∧ S.ops ≤ 80) := Lib.hid ⟨hkp, hcm, hfu, by omega, by omega⟩
      clear hkp hcm hfu hmo hop hi hlt
      go_wp2_with (fail)
      exact HQ.out _ _ _ _ _ _ _ _ _ _ _ _ _ _ _ _ _ _ _ _ _ S _ HE
end Go.Proofs.YtnaccngcpjkmbaaDoor
