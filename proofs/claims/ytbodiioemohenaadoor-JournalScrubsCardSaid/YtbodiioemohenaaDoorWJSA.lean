/- JournalScrubs' first loop: rows saved and appended, no fuse. Premises: the contracts. -/
import Derived.Test.YtbodiioemohenaaDoorJnPl
namespace Go.Proofs.YtbodiioemohenaaDoor
open Go.RowKit

def JsaRel {DC : DiskW} (JC : JournC DC) (n : Nat) (w : World) (sp dp : Value) (v : Value) (W : World) : Prop :=
  ∃ (i : Nat) (st : JS) (S : DS), v = .int .i64 (i : Int) ∧ i ≤ n ∧ JKeep JC w sp dp st S [] W ∧ JOff S ∧ S.fuse = 0 ∧ mostS S 0 256 ≤ i ∧ S.ops ≤ 300 * i
noncomputable def body_jsa : Code := (((Tryd.f4.body.map loopsOf).getD [])[0]?).getD .skip
set_option maxRecDepth 100000 in
set_option maxHeartbeats 4000000 in
theorem jsa_loop (DC : DiskW) (JC : JournC DC) (c1 c2 c3 c4 c5 c7 c9 c10 c11 c12 c13 c14 c15 c16 c17 c18 c19 c20 c21 c22 c23 c24 c25 c26 c27 c28 c29 c30 c31 c32 c33 c34 c35 c36 c37 c38 c39 c40 c41 c42 c43 c44 c45 c46 c47 c48 c49 c50 c51 c52 c53 c54 c55 c56 c57 c58 c59 c60 c61 c62 c63 c64 c65 c66 c67 c68 c69 c70 c71 c72 c73 c74 c75 c76 c77 c78 c79 c80 c81 c82 c83 c84 c85 c86 c87 c88 c89 c90 c91 c92 c93 c94 c95 c96 c97 c98 c99 c100 c101 c102 c103 c104 c105 c106 c107 c108 c109 c110 c111 c112 c113 c114 c115 : Value) (xss : List (List UInt8)) (Al : Option Addr) (cl : Nat) (sp dp : Value) (w W0 : World) (st0 : JS) (hs : Hid (Salts w)) (hl : Hid (RsA w (.slice Al xss.length cl) xss)) (hn : Hid (xss.length ≤ 5)) (h0 : Hid (JKeep JC w sp dp st0 newS [] W0)) {Q : Exit → Act → World → Prop}
    (HQ : Hid (∀ (u4 u31 u32 u33 u34 u35 u36 u37 u38 u39 u40 u41 u42 u43 u44 u45 u46 u47 u48 u49 u50 u51 u52 u53 u54 u55 v : Value) (st : JS) (S : DS) (W : World), Hid (JKeep JC w sp dp st S [] W ∧ JOff S ∧ S.fuse = 0 ∧ mostS S 0 256 ≤ 5 ∧ S.ops ≤ 1500) → Q (.exit 0) ⟨List.toArray ((.slice Al xss.length cl) :: c1 :: c2 :: c3 :: u4 :: c5 :: sp :: c7 :: v :: c9 :: c10 :: c11 :: c12 :: c13 :: c14 :: c15 :: c16 :: c17 :: c18 :: c19 :: c20 :: c21 :: c22 :: c23 :: c24 :: c25 :: c26 :: c27 :: c28 :: c29 :: c30 :: u31 :: u32 :: u33 :: u34 :: u35 :: u36 :: u37 :: u38 :: u39 :: u40 :: u41 :: u42 :: u43 :: u44 :: u45 :: u46 :: u47 :: u48 :: u49 :: u50 :: u51 :: u52 :: u53 :: u54 :: u55 :: c56 :: c57 :: c58 :: c59 :: c60 :: c61 :: c62 :: c63 :: c64 :: c65 :: c66 :: c67 :: c68 :: c69 :: c70 :: c71 :: c72 :: c73 :: c74 :: c75 :: c76 :: c77 :: c78 :: c79 :: c80 :: c81 :: c82 :: c83 :: c84 :: c85 :: c86 :: c87 :: c88 :: c89 :: c90 :: c91 :: c92 :: c93 :: c94 :: c95 :: c96 :: c97 :: c98 :: c99 :: c100 :: c101 :: c102 :: c103 :: c104 :: c105 :: c106 :: c107 :: c108 :: c109 :: c110 :: c111 :: c112 :: c113 :: c114 :: c115 :: []), []⟩ W))
    (HR : Hid (∀ (a : Act) (W : World), a.tmps.getD 4 undef = .bool true → a.defers = [] → Below w.heap.size w W → Q .ret a W)) :
    (Code.loop body_jsa).wp Tryd.prog Q ⟨List.toArray ((.slice Al xss.length cl) :: c1 :: c2 :: c3 :: c4 :: c5 :: sp :: c7 :: (.int .i64 0) :: c9 :: c10 :: c11 :: c12 :: c13 :: c14 :: c15 :: c16 :: c17 :: c18 :: c19 :: c20 :: c21 :: c22 :: c23 :: c24 :: c25 :: c26 :: c27 :: c28 :: c29 :: c30 :: c31 :: c32 :: c33 :: c34 :: c35 :: c36 :: c37 :: c38 :: c39 :: c40 :: c41 :: c42 :: c43 :: c44 :: c45 :: c46 :: c47 :: c48 :: c49 :: c50 :: c51 :: c52 :: c53 :: c54 :: c55 :: c56 :: c57 :: c58 :: c59 :: c60 :: c61 :: c62 :: c63 :: c64 :: c65 :: c66 :: c67 :: c68 :: c69 :: c70 :: c71 :: c72 :: c73 :: c74 :: c75 :: c76 :: c77 :: c78 :: c79 :: c80 :: c81 :: c82 :: c83 :: c84 :: c85 :: c86 :: c87 :: c88 :: c89 :: c90 :: c91 :: c92 :: c93 :: c94 :: c95 :: c96 :: c97 :: c98 :: c99 :: c100 :: c101 :: c102 :: c103 :: c104 :: c105 :: c106 :: c107 :: c108 :: c109 :: c110 :: c111 :: c112 :: c113 :: c114 :: c115 :: []), []⟩ W0 := by
  unfold body_jsa
  conv => arg 2; arg 1; whnf
  go_loopw [8] (fun v wx => JsaRel JC xss.length w sp dp v wx) (fun v _ => xss.length - (intOf v).toNat)
  case atStart => exact ⟨0, st0, newS, rfl, Nat.zero_le _, h0.out, joff_new, rfl, by rw [most_new]; exact Nat.le_refl _, Nat.le_refl _⟩
  case round =>
    obtain ⟨i, st, S, rfl, hi, hkp, hof, hfu, hmo, hop⟩ := hrel
    have nI : (xss.length : Int) ≤ 5 := by have := hn.out; omega
    by_cases hlt : i < xss.length
    · have hI : (i : Int) < xss.length := by omega
      obtain ⟨A, c, e, hm0, hrow⟩ := hl.out.ex
      injection e with e1 _ e2
      obtain ⟨g, o, ui, hA, hg, cui, hui, h9⟩ := hrow i hlt
      obtain rfl : Al = some ⟨g, o, none⟩ := e1.trans hA
      obtain ⟨bs, hbs⟩ : ∃ bs, bs = xss[i] := ⟨_, rfl⟩
      rw [← hbs] at hui
      obtain ⟨Ab, kb, rfl, hk1, hk2, hk3⟩ := hui.form
      have cu := (hkp.old.cell (p := ⟨g, o + i, none⟩) hg).trans cui
      have HLW : Hid (∀ W, Below w.heap.size w W → W.cell? ⟨g, o + i, none⟩ = some (.slice Ab bs.length kb)) := Lib.hid fun W hW => (hW.cell (p := ⟨g, o + i, none⟩) hg).trans cui
      have HUI := Lib.hid hui
      have HLT := Lib.hid hlt
      have HK := Lib.hid hkp
      have HOL := Lib.hid hkp.old
      obtain ⟨m, hm⟩ : ∃ m, mostS S 0 256 = m := ⟨_, rfl⟩
      rw [hm] at hmo
      have HCM : Hid (JOff S ∧ S.fuse = 0 ∧ mostS S 0 256 = m ∧ m ≤ i ∧ S.ops ≤ 300 * i ∧ i ≤ 5) := Lib.hid ⟨hof, hfu, hm, hmo, hop, by have := hn.out; omega⟩
      unfold maxLen at hk2
      have lI : (bs.length : Int) ≤ 9223372036854775807 := by omega
      by_cases hg3 : 300 < bs.length
      · have gI : decide ((300 : Int) < (bs.length : Int)) = true := decide_eq_true (by omega)
        clear hkp hof hfu hmo hop hi hlt hrow e1 e2 hA hg cui hui h9 hbs hk1 hk2 hk3 hg3 hm0 hm
        go_wp2_with (fail)
        refine (awakeJ_any DC JC _ (hs.out.under HOL.out hs.out.1)).mono ?_
        rintro e w1 ⟨rfl, b1⟩
        have B1 := Lib.hid (HOL.out.trans (b1.mono HOL.out.size))
        clear b1
        go_wp2_with (fail)
        exact HR.out _ _ rfl rfl B1.out
      · have gI : decide ((300 : Int) < (bs.length : Int)) = false := decide_eq_false (by omega)
        have HG3 : Hid (bs.length ≤ 300) := Lib.hid (by omega)
        clear hkp hof hfu hmo hop hi hlt hrow e1 e2 hA hg cui hui h9 hbs hk1 hk2 hk3 hg3 hm0 hm
        go_wp2_with (fail)
        obtain ⟨S1, e1, hS1⟩ : ∃ S1 e1, saveS fp8 S 0 256 bs false = (S1, e1) := ⟨(saveS fp8 S 0 256 bs false).1, (saveS fp8 S 0 256 bs false).2, (Prod.eta _).symm⟩
        obtain ⟨S2, e2, hS2⟩ : ∃ S2 e2, layS S1 512 (partsR bs (m + 1) 0) = (S2, e2) := ⟨(layS S1 512 (partsR bs (m + 1) 0)).1, (layS S1 512 (partsR bs (m + 1) 0)).2, (Prod.eta _).symm⟩
        obtain ⟨q1, q2, q3, q4, q5, q6, q7, q8⟩ := plain_turn HCM.out.1 HCM.out.2.1 HCM.out.2.2.1 (by have := HCM.out.2.2.2; omega) HG3.out hS1 hS2
        have m9 : m ≤ 5 := by have := HCM.out.2.2.2; omega
        have o9 : S.ops ≤ 1500 := by have := HCM.out.2.2.2; omega
        refine (jk_save (HK.out.with_old HUI.out) hs.out (List.mem_cons_self ..) (by have := HG3.out; omega) HCM.out.1.calm.on (by rw [HCM.out.2.2.1]; exact Nat.lt_of_le_of_lt m9 (by decide)) (by omega)).mono ?_
        rintro e w2 ⟨rfl, st2, h2, hk2⟩
        rw [hS1] at h2 hk2 ⊢
        have h2 := h2 q1
        rw [HCM.out.2.2.1] at h2
        subst h2
        have K2 : Hid (JKeep JC w sp dp ⟨true, m + 1, 0, 512⟩ S1 [] w2) := Lib.hid (hk2.less fun q hq => by cases hq)
        have cl2 := HLW.out w2 hk2.old
        have HP : Hid (S1.dead = false ∧ S1.ops ≤ S.ops + 257 ∧ JOff S2 ∧ S2.fuse = 0 ∧ mostS S2 0 256 = m + 1 ∧ S2.ops ≤ S.ops + 261 ∧ m ≤ 5 ∧ S.ops ≤ 1500) := Lib.hid ⟨q3, q4, q5, q6, q7, q8, m9, o9⟩
        have HS2 := Lib.hid hS2
        clear hS1 hS2 q1 q2 q3 q4 q5 q6 q7 q8 m9 o9 hk2 HK cu
        go_wp2_with (fail)
        refine (jk_append K2.out HUI.out (by have := HG3.out; omega) (by have := cntR_300 HG3.out; omega) (by decide) (by have := HP.out.2.2.2.2.2.2.1; omega) HP.out.1 (by have := HP.out; omega)).mono ?_
        rintro e w3 ⟨rfl, st3, _, hk3⟩
        rw [HS2.out] at hk3 ⊢
        have K3 := Lib.hid hk3
        clear hk3 K2 cl2
        go_wp2_with (fail)
        obtain ⟨_, _, q5, q6, q7, q8, _, _⟩ := HP.out
        have hlt := HLT.out
        have hmi := HCM.out.2.2.2
        exact ⟨⟨i + 1, st3, S2, by go_num, by omega, K3.out, q5, q6, by rw [q7]; exact Nat.succ_le_succ hmi.1, Nat.le_trans q8 (by omega)⟩, by simp [intOf]; omega⟩
    · obtain rfl : i = xss.length := by omega
      have HE : Hid (JKeep JC w sp dp st S [] wr ∧ JOff S ∧ S.fuse = 0 ∧ mostS S 0 256 ≤ 5 ∧ S.ops ≤ 1500) := Lib.hid ⟨hkp, hof, hfu, Nat.le_trans hmo hn.out, Nat.le_trans hop (by have := hn.out; omega)⟩
      clear hkp hof hfu hmo hop hi hlt
      go_wp2_with (fail)
      exact HQ.out _ _ _ _ _ _ _ _ _ _ _ _ _ _ _ _ _ _ _ _ _ _ _ _ _ _ _ st S _ HE
end Go.Proofs.YtbodiioemohenaaDoor
