/- Part 28 of the words that the laws share: RefLoopB, RefLoopD, RefLoopF. No condition of its own: each theorem says its own. -/
import Derived.Test.YtnaccngcpjkmbaaDoorPart6
import Derived.Test.YtnaccngcpjkmbaaDoorPart3
import Derived.Test.YtnaccngcpjkmbaaDoorPart2

/- The second reference's Sum: the loop of the sixty-four rounds. Conditions: words that fit uint32. -/
namespace Go.Proofs.YtnaccngcpjkmbaaDoor
open Go.RowKit

noncomputable def body_rounds : Code := (((Tryd.f27.body.map loopsOf).getD [])[4]?).getD .skip
/-- The state at the head of the loop of rounds. -/
def RndRel (s : St) (ws : List Nat) (w : World) (a b c d e f g h i : Value) (wr : World) : Prop :=
  ∃ j n : Nat, i = .int .i64 (j : Int) ∧ j ≤ 64 ∧ wr = w.drewN n ∧ a = wv (rnds s ws j).a ∧ b = wv (rnds s ws j).b ∧ c = wv (rnds s ws j).c ∧ d = wv (rnds s ws j).d ∧ e = wv (rnds s ws j).e ∧ f = wv (rnds s ws j).f ∧ g = wv (rnds s ws j).g ∧ h = wv (rnds s ws j).h
theorem rndRel_mk {s : St} {ws : List Nat} {w : World} {j n : Nat} {t : St} (hj : j ≤ 64) (ht : rnds s ws j = t) : RndRel s ws w (wv t.a) (wv t.b) (wv t.c) (wv t.d) (wv t.e) (wv t.f) (wv t.g) (wv t.h) (.int .i64 (j : Int)) (w.drewN n) := by
  subst ht
  exact ⟨j, n, rfl, hj, rfl, rfl, rfl, rfl, rfl, rfl, rfl, rfl, rfl⟩
set_option maxRecDepth 100000 in
set_option maxHeartbeats 2000000 in
theorem rounds_loop (c0 c1 c2 c3 c4 c6 c8 c9 c10 c11 c21 c22 c23 c24 c25 c26 c27 c28 c29 c30 c31 c32 c33 c34 c35 c36 c37 c38 c39 c40 c41 c42 c43 c44 c45 c46 c47 c48 c49 c50 c51 c52 c53 c54 c55 c56 c57 c58 c59 c60 c61 c62 c63 c64 c65 c66 c67 c68 c69 c70 c71 c72 c73 c74 c75 c76 c77 c78 c79 c80 c81 c82 c83 c84 c85 c86 c87 c88 c89 c90 c91 c92 c93 c94 c95 c96 c97 c98 c99 c100 c101 c102 c103 c104 c105 c106 c107 c108 c109 c110 c111 c112 c113 c114 c115 c116 c117 c118 c119 c120 c121 c122 c123 c124 c125 c126 c127 c128 c129 c130 c131 c132 c133 c134 c135 c136 c137 c138 c139 c140 c141 c142 c143 c144 c145 c146 c147 c148 c149 c150 c151 c152 c153 c154 c155 c156 c157 c158 c159 c160 c161 c162 c163 c164 c165 c166 c167 c168 c169 c170 c171 c172 c173 c174 c175 c176 c177 c178 c179 c180 c181 c182 c183 c184 c185 c186 c187 c188 c189 c190 c191 c192 c193 c194 c195 c196 c197 c198 c199 c200 c201 c202 c203 c204 c205 c206 c207 c208 c209 c210 c211 c212 c213 c214 c215 c216 c217 c218 c219 c220 c221 c222 c223 c224 c225 c226 c227 c228 c229 c230 c231 c232 c233 c234 c235 c236 c237 c238 c239 c240 c241 c242 c243 c244 c245 c246 c247 c248 c249 c250 c251 c252 c253 c254 c255 c256 c257 c258 c259 c260 c261 c262 c263 c264 c265 c266 c267 c268 c269 c270 c271 c272 c273 c274 c275 c276 c277 c278 c279 c280 c281 c282 c283 c284 : Value) (s : St) (hs : Hid s.ok) (ws : List Nat) (HWS : Hid (ws.length = 64 ∧ ∀ x ∈ ws, x < 4294967296)) (w : World) (vk vw : Value) (hk : Hid (Rw w vk kT)) (hw : Hid (Rw w vw ws)) {Q : Exit → Act → World → Prop}
    (HQ : Hid (∀ (u20 u21 u22 u23 u160 u161 u162 u163 u164 u165 u166 u167 u168 u169 u170 u171 u172 u173 u174 u175 u176 u177 u178 u179 u180 u181 u182 u183 u184 u185 u186 u187 u188 u189 u190 u191 u192 u193 u194 u195 u196 u197 u198 u199 u200 u201 u202 u203 u204 u205 u206 u207 u208 u209 u210 u211 u212 u213 u214 u215 u216 u217 u218 u219 u220 u221 u222 u223 u224 u225 : Value) (n : Nat) (t : St), Hid (t = rnds s ws 64) → Q (.exit 8) ⟨List.toArray (c0 :: c1 :: c2 :: c3 :: c4 :: vk :: c6 :: vw :: c8 :: c9 :: c10 :: c11 :: (wv t.a) :: (wv t.b) :: (wv t.c) :: (wv t.d) :: (wv t.e) :: (wv t.f) :: (wv t.g) :: (wv t.h) :: u20 :: u21 :: u22 :: u23 :: c24 :: c25 :: c26 :: c27 :: c28 :: c29 :: c30 :: c31 :: c32 :: c33 :: c34 :: c35 :: c36 :: c37 :: c38 :: c39 :: c40 :: c41 :: c42 :: c43 :: c44 :: c45 :: c46 :: c47 :: c48 :: c49 :: c50 :: c51 :: c52 :: c53 :: c54 :: c55 :: c56 :: c57 :: c58 :: c59 :: c60 :: c61 :: c62 :: c63 :: c64 :: c65 :: c66 :: c67 :: c68 :: c69 :: c70 :: c71 :: c72 :: c73 :: c74 :: c75 :: c76 :: c77 :: c78 :: c79 :: c80 :: c81 :: c82 :: c83 :: c84 :: c85 :: c86 :: c87 :: c88 :: c89 :: c90 :: c91 :: c92 :: c93 :: c94 :: c95 :: c96 :: c97 :: c98 :: c99 :: c100 :: c101 :: c102 :: c103 :: c104 :: c105 :: c106 :: c107 :: c108 :: c109 :: c110 :: c111 :: c112 :: c113 :: c114 :: c115 :: c116 :: c117 :: c118 :: c119 :: c120 :: c121 :: c122 :: c123 :: c124 :: c125 :: c126 :: c127 :: c128 :: c129 :: c130 :: c131 :: c132 :: c133 :: c134 :: c135 :: c136 :: c137 :: c138 :: c139 :: c140 :: c141 :: c142 :: c143 :: c144 :: c145 :: c146 :: c147 :: c148 :: c149 :: c150 :: c151 :: c152 :: c153 :: c154 :: c155 :: c156 :: c157 :: c158 :: c159 :: u160 :: u161 :: u162 :: u163 :: u164 :: u165 :: u166 :: u167 :: u168 :: u169 :: u170 :: u171 :: u172 :: u173 :: u174 :: u175 :: u176 :: u177 :: u178 :: u179 :: u180 :: u181 :: u182 :: u183 :: u184 :: u185 :: u186 :: u187 :: u188 :: u189 :: u190 :: u191 :: u192 :: u193 :: u194 :: u195 :: u196 :: u197 :: u198 :: u199 :: u200 :: u201 :: u202 :: u203 :: u204 :: u205 :: u206 :: u207 :: u208 :: u209 :: u210 :: u211 :: u212 :: u213 :: u214 :: u215 :: u216 :: u217 :: u218 :: u219 :: u220 :: u221 :: u222 :: u223 :: u224 :: u225 :: c226 :: c227 :: c228 :: c229 :: c230 :: c231 :: c232 :: c233 :: c234 :: c235 :: c236 :: c237 :: c238 :: c239 :: c240 :: c241 :: c242 :: c243 :: c244 :: c245 :: c246 :: c247 :: c248 :: c249 :: c250 :: c251 :: c252 :: c253 :: c254 :: c255 :: c256 :: c257 :: c258 :: c259 :: c260 :: c261 :: c262 :: c263 :: c264 :: c265 :: c266 :: c267 :: c268 :: c269 :: c270 :: c271 :: c272 :: c273 :: c274 :: c275 :: c276 :: c277 :: c278 :: c279 :: c280 :: c281 :: c282 :: c283 :: c284 :: []), []⟩ (w.drewN n))) :
    (Code.loop body_rounds).wp Tryd.prog Q ⟨List.toArray (c0 :: c1 :: c2 :: c3 :: c4 :: vk :: c6 :: vw :: c8 :: c9 :: c10 :: c11 :: (wv s.a) :: (wv s.b) :: (wv s.c) :: (wv s.d) :: (wv s.e) :: (wv s.f) :: (wv s.g) :: (wv s.h) :: (.int .i64 0) :: c21 :: c22 :: c23 :: c24 :: c25 :: c26 :: c27 :: c28 :: c29 :: c30 :: c31 :: c32 :: c33 :: c34 :: c35 :: c36 :: c37 :: c38 :: c39 :: c40 :: c41 :: c42 :: c43 :: c44 :: c45 :: c46 :: c47 :: c48 :: c49 :: c50 :: c51 :: c52 :: c53 :: c54 :: c55 :: c56 :: c57 :: c58 :: c59 :: c60 :: c61 :: c62 :: c63 :: c64 :: c65 :: c66 :: c67 :: c68 :: c69 :: c70 :: c71 :: c72 :: c73 :: c74 :: c75 :: c76 :: c77 :: c78 :: c79 :: c80 :: c81 :: c82 :: c83 :: c84 :: c85 :: c86 :: c87 :: c88 :: c89 :: c90 :: c91 :: c92 :: c93 :: c94 :: c95 :: c96 :: c97 :: c98 :: c99 :: c100 :: c101 :: c102 :: c103 :: c104 :: c105 :: c106 :: c107 :: c108 :: c109 :: c110 :: c111 :: c112 :: c113 :: c114 :: c115 :: c116 :: c117 :: c118 :: c119 :: c120 :: c121 :: c122 :: c123 :: c124 :: c125 :: c126 :: c127 :: c128 :: c129 :: c130 :: c131 :: c132 :: c133 :: c134 :: c135 :: c136 :: c137 :: c138 :: c139 :: c140 :: c141 :: c142 :: c143 :: c144 :: c145 :: c146 :: c147 :: c148 :: c149 :: c150 :: c151 :: c152 :: c153 :: c154 :: c155 :: c156 :: c157 :: c158 :: c159 :: c160 :: c161 :: c162 :: c163 :: c164 :: c165 :: c166 :: c167 :: c168 :: c169 :: c170 :: c171 :: c172 :: c173 :: c174 :: c175 :: c176 :: c177 :: c178 :: c179 :: c180 :: c181 :: c182 :: c183 :: c184 :: c185 :: c186 :: c187 :: c188 :: c189 :: c190 :: c191 :: c192 :: c193 :: c194 :: c195 :: c196 :: c197 :: c198 :: c199 :: c200 :: c201 :: c202 :: c203 :: c204 :: c205 :: c206 :: c207 :: c208 :: c209 :: c210 :: c211 :: c212 :: c213 :: c214 :: c215 :: c216 :: c217 :: c218 :: c219 :: c220 :: c221 :: c222 :: c223 :: c224 :: c225 :: c226 :: c227 :: c228 :: c229 :: c230 :: c231 :: c232 :: c233 :: c234 :: c235 :: c236 :: c237 :: c238 :: c239 :: c240 :: c241 :: c242 :: c243 :: c244 :: c245 :: c246 :: c247 :: c248 :: c249 :: c250 :: c251 :: c252 :: c253 :: c254 :: c255 :: c256 :: c257 :: c258 :: c259 :: c260 :: c261 :: c262 :: c263 :: c264 :: c265 :: c266 :: c267 :: c268 :: c269 :: c270 :: c271 :: c272 :: c273 :: c274 :: c275 :: c276 :: c277 :: c278 :: c279 :: c280 :: c281 :: c282 :: c283 :: c284 :: []), []⟩ w := by
  obtain ⟨gk, ck, rfl, hk1, hk2, hk3, hk4⟩ := hk.out
  obtain ⟨gw, cw, rfl, hw1, hw2, hw3, hw4⟩ := hw.out
  have HK4 := Lib.hid hk4
  have HW4 := Lib.hid hw4
  unfold maxLen at hk2 hw2
  have hlk : (64 : Int) ≤ (kT.length : Int) := by simp [kT]
  have hlw : (64 : Int) ≤ (ws.length : Int) := by have := HWS.out.1; omega
  clear hk4 hw4
  unfold body_rounds
  conv => arg 2; arg 1; whnf
  go_loopw [12, 13, 14, 15, 16, 17, 18, 19, 20] (fun a b c d e f g h i wx => RndRel s ws w a b c d e f g h i wx) (fun _ _ _ _ _ _ _ _ i _ => 64 - (intOf i).toNat)
  case atStart => exact rndRel_mk (j := 0) (n := 0) (by omega) rfl
  case round =>
    obtain ⟨j, n, rfl, hj, rfl, rfl, rfl, rfl, rfl, rfl, rfl, rfl, rfl⟩ := hrel
    have hok := rnds_ok hs.out ws j
    obtain ⟨⟨a, b, c, d, e, f, g, h⟩, ht⟩ : ∃ t, t = rnds s ws j := ⟨_, rfl⟩
    rw [← ht] at hok ⊢
    obtain ⟨oa, ob, oc, od, oe, of, og, oh⟩ := hok
    have HT := Lib.hid ht
    simp only at oa ob oc od oe of og oh ⊢
    clear ht
    by_cases hlt3 : j < 64
    · have hI : (j : Int) < 64 := by omega
      obtain ⟨kj, hkj, hkc, hkl⟩ : ∃ kj : Nat, kT.getD j 0 = kj ∧ w.cell? ⟨gk, j, none⟩ = some (.int .u32 (kj : Int)) ∧ (kj : Int) ≤ 4294967295 := by
        have h1 : j < kT.length := by omega
        exact ⟨kT[j], by simp [h1], HK4.out j h1, by have := kT_lt _ (List.getElem_mem h1); omega⟩
      obtain ⟨wj, hwj, hwc, hwl⟩ : ∃ wj : Nat, ws.getD j 0 = wj ∧ w.cell? ⟨gw, j, none⟩ = some (.int .u32 (wj : Int)) ∧ (wj : Int) ≤ 4294967295 := by
        have h1 : j < ws.length := by omega
        exact ⟨ws[j], by simp [h1], HW4.out j h1, by have := HWS.out.2 _ (List.getElem_mem h1); omega⟩
      have HN : Hid (rnds s ws (j + 1) = rnd ⟨a, b, c, d, e, f, g, h⟩ kj wj) := by
        show rnds s ws (j + 1) = _
        rw [rnds, ← HT.out, hkj, hwj]
      have T6 := Lib.hid fun w => turn_any' e 6 6 rfl w (by omega) (by omega)
      have T11 := Lib.hid fun w => turn_any' e 11 11 rfl w (by omega) (by omega)
      have T25 := Lib.hid fun w => turn_any' e 25 25 rfl w (by omega) (by omega)
      have T2 := Lib.hid fun w => turn_any' a 2 2 rfl w (by omega) (by omega)
      have T13 := Lib.hid fun w => turn_any' a 13 13 rfl w (by omega) (by omega)
      have T22 := Lib.hid fun w => turn_any' a 22 22 rfl w (by omega) (by omega)
      have E1 := Sg1_bits oe
      have E2 := Sg0_bits oa
      have E3 := ch_bits oe of og
      have E4 := maj_bits oa ob oc
      have ia : (a : Int) ≤ 4294967295 := by omega
      have ie : (e : Int) ≤ 4294967295 := by omega
      have lk1 : (j : Int) < kT.length := by omega
      have lw1 : (j : Int) < ws.length := by omega
      clear hkj hwj hlk hlw
      unfold wv
      go_wp2_with (first
        | (go_at_call 49; with_reducible refine (T6.out _).mono ?_; rintro _ _ ⟨rfl, rfl⟩)
        | (go_at_call 49; with_reducible refine (T11.out _).mono ?_; rintro _ _ ⟨rfl, rfl⟩)
        | (go_at_call 49; with_reducible refine (T25.out _).mono ?_; rintro _ _ ⟨rfl, rfl⟩))
      go_quiet (fail)
      go_wp2_with (first
        | (go_at_call 49; with_reducible refine (T2.out _).mono ?_; rintro _ _ ⟨rfl, rfl⟩)
        | (go_at_call 49; with_reducible refine (T13.out _).mono ?_; rintro _ _ ⟨rfl, rfl⟩)
        | (go_at_call 49; with_reducible refine (T22.out _).mono ?_; rintro _ _ ⟨rfl, rfl⟩))
      go_roundw
      case rel =>
        have ea : (((h : Int) + (Sg1 e : Nat) + (chN e f g : Nat) + (kj : Int) + (wj : Int)) % 4294967296 + ((Sg0 a : Nat) + (majN a b c : Nat) : Int) % 4294967296) % 4294967296 = (((rnd ⟨a, b, c, d, e, f, g, h⟩ kj wj).a : Nat) : Int) := by
          simp only [rnd, St.t, St.u]; omega
        have ed : ((d : Int) + ((h : Int) + (Sg1 e : Nat) + (chN e f g : Nat) + (kj : Int) + (wj : Int)) % 4294967296) % 4294967296 = (((rnd ⟨a, b, c, d, e, f, g, h⟩ kj wj).e : Nat) : Int) := by
          simp only [rnd, St.t]; omega
        rw [ea, ed]
        exact rndRel_mk (j := j + 1) (by omega) HN.out
      case measure => simp [intOf]; omega
    · obtain rfl : j = 64 := by omega
      go_wp2_with (fail)
      exact HQ.out _ _ _ _ _ _ _ _ _ _ _ _ _ _ _ _ _ _ _ _ _ _ _ _ _ _ _ _ _ _ _ _ _ _ _ _ _ _ _ _ _ _ _ _ _ _ _ _ _ _ _ _ _ _ _ _ _ _ _ _ _ _ _ _ _ _ _ _ _ _ _ ⟨a, b, c, d, e, f, g, h⟩ HT
end Go.Proofs.YtnaccngcpjkmbaaDoor

/- The second reference's Sum: the loop over a block's sixteen words. No condition of its own. -/
namespace Go.Proofs.YtnaccngcpjkmbaaDoor
open Go.RowKit

noncomputable def body_words : Code := (((Tryd.f27.body.map loopsOf).getD [])[2]?).getD .skip
set_option maxRecDepth 100000 in
set_option maxHeartbeats 2000000 in
theorem words_loop (c0 c1 c2 c4 c5 c9 c10 c11 c12 c13 c14 c15 c16 c17 c18 c19 c20 c21 c22 c23 c24 c25 c26 c27 c28 c29 c30 c31 c32 c33 c34 c35 c36 c37 c38 c39 c40 c41 c42 c43 c44 c45 c46 c47 c48 c49 c50 c51 c52 c53 c54 c55 c56 c57 c58 c59 c60 c61 c62 c63 c64 c65 c66 c67 c68 c69 c70 c71 c72 c73 c74 c75 c76 c77 c78 c79 c80 c81 c82 c83 c84 c85 c86 c87 c88 c89 c90 c91 c92 c93 c94 c95 c96 c97 c98 c99 c100 c101 c102 c103 c104 c105 c106 c107 c108 c109 c110 c111 c112 c113 c114 c115 c116 c117 c118 c119 c120 c121 c122 c123 c124 c125 c126 c127 c128 c129 c130 c131 c132 c133 c134 c135 c136 c137 c138 c139 c140 c141 c142 c143 c144 c145 c146 c147 c148 c149 c150 c151 c152 c153 c154 c155 c156 c157 c158 c159 c160 c161 c162 c163 c164 c165 c166 c167 c168 c169 c170 c171 c172 c173 c174 c175 c176 c177 c178 c179 c180 c181 c182 c183 c184 c185 c186 c187 c188 c189 c190 c191 c192 c193 c194 c195 c196 c197 c198 c199 c200 c201 c202 c203 c204 c205 c206 c207 c208 c209 c210 c211 c212 c213 c214 c215 c216 c217 c218 c219 c220 c221 c222 c223 c224 c225 c226 c227 c228 c229 c230 c231 c232 c233 c234 c235 c236 c237 c238 c239 c240 c241 c242 c243 c244 c245 c246 c247 c248 c249 c250 c251 c252 c253 c254 c255 c256 c257 c258 c259 c260 c261 c262 c263 c264 c265 c266 c267 c268 c269 c270 c271 c272 c273 c274 c275 c276 c277 c278 c279 c280 c281 c282 c283 c284 : Value) (m : List UInt8) (q gm cm : Nat) (w : World) (hm : Hid (Rd w (.slice (some ⟨gm, 0, none⟩) m.length cm) m)) (hq : 64 * q + 64 ≤ m.length) (_hml : (m.length : Int) ≤ 1000100) (hcm : m.length ≤ cm) (hcm2 : (cm : Int) ≤ 9223372036854775807) {Q : Exit → Act → World → Prop}
    (HQ : Hid (∀ (u8 u54 u55 u56 u57 u58 u59 u60 u61 u62 u63 u64 u65 u66 u67 u68 u69 u70 u71 u72 u73 v : Value) (wx : World), Hid (wx.ownsRow w.heap.size 87 1 v 16 ((wordsAt m (64 * q) 16).map wv)) → Hid (Below w.heap.size w wx) → Q (.exit 4) ⟨List.toArray (c0 :: c1 :: c2 :: (.slice (some ⟨gm, 0, none⟩) m.length cm) :: c4 :: c5 :: (.int .i64 (64 * (q : Int))) :: v :: u8 :: c9 :: c10 :: c11 :: c12 :: c13 :: c14 :: c15 :: c16 :: c17 :: c18 :: c19 :: c20 :: c21 :: c22 :: c23 :: c24 :: c25 :: c26 :: c27 :: c28 :: c29 :: c30 :: c31 :: c32 :: c33 :: c34 :: c35 :: c36 :: c37 :: c38 :: c39 :: c40 :: c41 :: c42 :: c43 :: c44 :: c45 :: c46 :: c47 :: c48 :: c49 :: c50 :: c51 :: c52 :: c53 :: u54 :: u55 :: u56 :: u57 :: u58 :: u59 :: u60 :: u61 :: u62 :: u63 :: u64 :: u65 :: u66 :: u67 :: u68 :: u69 :: u70 :: u71 :: u72 :: u73 :: c74 :: c75 :: c76 :: c77 :: c78 :: c79 :: c80 :: c81 :: c82 :: c83 :: c84 :: c85 :: c86 :: c87 :: c88 :: c89 :: c90 :: c91 :: c92 :: c93 :: c94 :: c95 :: c96 :: c97 :: c98 :: c99 :: c100 :: c101 :: c102 :: c103 :: c104 :: c105 :: c106 :: c107 :: c108 :: c109 :: c110 :: c111 :: c112 :: c113 :: c114 :: c115 :: c116 :: c117 :: c118 :: c119 :: c120 :: c121 :: c122 :: c123 :: c124 :: c125 :: c126 :: c127 :: c128 :: c129 :: c130 :: c131 :: c132 :: c133 :: c134 :: c135 :: c136 :: c137 :: c138 :: c139 :: c140 :: c141 :: c142 :: c143 :: c144 :: c145 :: c146 :: c147 :: c148 :: c149 :: c150 :: c151 :: c152 :: c153 :: c154 :: c155 :: c156 :: c157 :: c158 :: c159 :: c160 :: c161 :: c162 :: c163 :: c164 :: c165 :: c166 :: c167 :: c168 :: c169 :: c170 :: c171 :: c172 :: c173 :: c174 :: c175 :: c176 :: c177 :: c178 :: c179 :: c180 :: c181 :: c182 :: c183 :: c184 :: c185 :: c186 :: c187 :: c188 :: c189 :: c190 :: c191 :: c192 :: c193 :: c194 :: c195 :: c196 :: c197 :: c198 :: c199 :: c200 :: c201 :: c202 :: c203 :: c204 :: c205 :: c206 :: c207 :: c208 :: c209 :: c210 :: c211 :: c212 :: c213 :: c214 :: c215 :: c216 :: c217 :: c218 :: c219 :: c220 :: c221 :: c222 :: c223 :: c224 :: c225 :: c226 :: c227 :: c228 :: c229 :: c230 :: c231 :: c232 :: c233 :: c234 :: c235 :: c236 :: c237 :: c238 :: c239 :: c240 :: c241 :: c242 :: c243 :: c244 :: c245 :: c246 :: c247 :: c248 :: c249 :: c250 :: c251 :: c252 :: c253 :: c254 :: c255 :: c256 :: c257 :: c258 :: c259 :: c260 :: c261 :: c262 :: c263 :: c264 :: c265 :: c266 :: c267 :: c268 :: c269 :: c270 :: c271 :: c272 :: c273 :: c274 :: c275 :: c276 :: c277 :: c278 :: c279 :: c280 :: c281 :: c282 :: c283 :: c284 :: []), []⟩ wx)) :
    (Code.loop body_words).wp Tryd.prog Q ⟨List.toArray (c0 :: c1 :: c2 :: (.slice (some ⟨gm, 0, none⟩) m.length cm) :: c4 :: c5 :: (.int .i64 (64 * (q : Int))) :: (.slice none 0 0) :: (.int .i64 0) :: c9 :: c10 :: c11 :: c12 :: c13 :: c14 :: c15 :: c16 :: c17 :: c18 :: c19 :: c20 :: c21 :: c22 :: c23 :: c24 :: c25 :: c26 :: c27 :: c28 :: c29 :: c30 :: c31 :: c32 :: c33 :: c34 :: c35 :: c36 :: c37 :: c38 :: c39 :: c40 :: c41 :: c42 :: c43 :: c44 :: c45 :: c46 :: c47 :: c48 :: c49 :: c50 :: c51 :: c52 :: c53 :: c54 :: c55 :: c56 :: c57 :: c58 :: c59 :: c60 :: c61 :: c62 :: c63 :: c64 :: c65 :: c66 :: c67 :: c68 :: c69 :: c70 :: c71 :: c72 :: c73 :: c74 :: c75 :: c76 :: c77 :: c78 :: c79 :: c80 :: c81 :: c82 :: c83 :: c84 :: c85 :: c86 :: c87 :: c88 :: c89 :: c90 :: c91 :: c92 :: c93 :: c94 :: c95 :: c96 :: c97 :: c98 :: c99 :: c100 :: c101 :: c102 :: c103 :: c104 :: c105 :: c106 :: c107 :: c108 :: c109 :: c110 :: c111 :: c112 :: c113 :: c114 :: c115 :: c116 :: c117 :: c118 :: c119 :: c120 :: c121 :: c122 :: c123 :: c124 :: c125 :: c126 :: c127 :: c128 :: c129 :: c130 :: c131 :: c132 :: c133 :: c134 :: c135 :: c136 :: c137 :: c138 :: c139 :: c140 :: c141 :: c142 :: c143 :: c144 :: c145 :: c146 :: c147 :: c148 :: c149 :: c150 :: c151 :: c152 :: c153 :: c154 :: c155 :: c156 :: c157 :: c158 :: c159 :: c160 :: c161 :: c162 :: c163 :: c164 :: c165 :: c166 :: c167 :: c168 :: c169 :: c170 :: c171 :: c172 :: c173 :: c174 :: c175 :: c176 :: c177 :: c178 :: c179 :: c180 :: c181 :: c182 :: c183 :: c184 :: c185 :: c186 :: c187 :: c188 :: c189 :: c190 :: c191 :: c192 :: c193 :: c194 :: c195 :: c196 :: c197 :: c198 :: c199 :: c200 :: c201 :: c202 :: c203 :: c204 :: c205 :: c206 :: c207 :: c208 :: c209 :: c210 :: c211 :: c212 :: c213 :: c214 :: c215 :: c216 :: c217 :: c218 :: c219 :: c220 :: c221 :: c222 :: c223 :: c224 :: c225 :: c226 :: c227 :: c228 :: c229 :: c230 :: c231 :: c232 :: c233 :: c234 :: c235 :: c236 :: c237 :: c238 :: c239 :: c240 :: c241 :: c242 :: c243 :: c244 :: c245 :: c246 :: c247 :: c248 :: c249 :: c250 :: c251 :: c252 :: c253 :: c254 :: c255 :: c256 :: c257 :: c258 :: c259 :: c260 :: c261 :: c262 :: c263 :: c264 :: c265 :: c266 :: c267 :: c268 :: c269 :: c270 :: c271 :: c272 :: c273 :: c274 :: c275 :: c276 :: c277 :: c278 :: c279 :: c280 :: c281 :: c282 :: c283 :: c284 :: []), []⟩ w := by
  obtain ⟨i3, k0, k1, k2, k3⟩ := info_parts info_w32
  unfold body_words
  conv => arg 2; arg 1; whnf
  go_loopw [7, 8] (fun ws i wx => WordsRel m (64 * q) w ws i wx) (fun _ i _ => 16 - (intOf i).toNat)
  case atStart => exact ⟨0, rfl, by omega, World.ownsRow_nil _ _ _ _, Below.refl _ _⟩
  case round =>
    obtain ⟨j, rfl, hj, own, bl2⟩ := hrel
    by_cases hlt2 : j < 16
    · have hI : (j : Int) < 16 := by omega
      obtain ⟨n, hn⟩ : ∃ n, n = numBE ((m.drop (64 * q + 4 * j)).take 4) := ⟨_, rfl⟩
      have hn32 : (n : Int) ≤ 4294967295 := by
        have h1 := numBE_lt ((m.drop (64 * q + 4 * j)).take 4)
        have h2 : (256 : Nat) ^ ((m.drop (64 * q + 4 * j)).take 4).length ≤ 256 ^ 4 := Nat.pow_le_pow_right (by omega) (by simp; omega)
        omega
      have HN := Lib.hid hn
      have HC := Lib.hid ((hm.out.below bl2).cut (64 * q + 4 * j) 4 (by omega) (by omega))
      have qs : w.heap.size ≤ wr.heap.size := bl2.size
      have e1 : (64 * (q : Int) + 4 * (j : Int)).toNat = 64 * q + 4 * j := by omega
      clear hn
      go_wp2_with (fail)
      refine (number2_any _ _ _ HC.out (by simp; omega)).mono ?_
      rintro e wn ⟨rfl, rfl⟩
      rw [← HN.out]
      clear e1
      go_wp2_with (at_builtin
                   refine wpList_append_one _ _ _ rfl _ _ _ rfl w.heap.size 87 i3 _ 4 Tryd.underlying88 k0 k1 k2 k3 rfl rfl _ _ _ rfl own rfl ?_ ?_ ?_ ?_
                   · unfold maxLen; omega
                   · omega
                   · exact qs
                   intro v7 w7 own7 b7)
      go_roundw
      case rel =>
        refine ⟨j + 1, by go_num, by omega, ?_, bl2.trans b7⟩
        rw [wordsAt, List.map_append, ← HN.out]
        exact own7
      case measure => simp [intOf]; omega
    · obtain rfl : j = 16 := by omega
      have HO := Lib.hid own
      have HB := Lib.hid bl2
      clear own bl2
      go_wp2_with (fail)
      exact HQ.out _ _ _ _ _ _ _ _ _ _ _ _ _ _ _ _ _ _ _ _ _ _ _ HO HB
end Go.Proofs.YtnaccngcpjkmbaaDoor

/- The second reference's Sum: the loop that fills the last block. No condition of its own. -/
namespace Go.Proofs.YtnaccngcpjkmbaaDoor
open Go.RowKit

noncomputable def body_pad : Code := (((Tryd.f27.body.map loopsOf).getD [])[0]?).getD .skip
set_option maxRecDepth 100000 in
set_option maxHeartbeats 2000000 in
theorem pad_loop (c0 c1 c2 c4 c5 c6 c7 c8 c9 c10 c11 c12 c13 c14 c15 c16 c17 c18 c19 c20 c21 c22 c23 c24 c25 c26 c27 c28 c29 c30 c31 c32 c33 c34 c35 c36 c37 c38 c39 c40 c41 c42 c43 c44 c45 c46 c47 c48 c49 c50 c51 c52 c53 c54 c55 c56 c57 c58 c59 c60 c61 c62 c63 c64 c65 c66 c67 c68 c69 c70 c71 c72 c73 c74 c75 c76 c77 c78 c79 c80 c81 c82 c83 c84 c85 c86 c87 c88 c89 c90 c91 c92 c93 c94 c95 c96 c97 c98 c99 c100 c101 c102 c103 c104 c105 c106 c107 c108 c109 c110 c111 c112 c113 c114 c115 c116 c117 c118 c119 c120 c121 c122 c123 c124 c125 c126 c127 c128 c129 c130 c131 c132 c133 c134 c135 c136 c137 c138 c139 c140 c141 c142 c143 c144 c145 c146 c147 c148 c149 c150 c151 c152 c153 c154 c155 c156 c157 c158 c159 c160 c161 c162 c163 c164 c165 c166 c167 c168 c169 c170 c171 c172 c173 c174 c175 c176 c177 c178 c179 c180 c181 c182 c183 c184 c185 c186 c187 c188 c189 c190 c191 c192 c193 c194 c195 c196 c197 c198 c199 c200 c201 c202 c203 c204 c205 c206 c207 c208 c209 c210 c211 c212 c213 c214 c215 c216 c217 c218 c219 c220 c221 c222 c223 c224 c225 c226 c227 c228 c229 c230 c231 c232 c233 c234 c235 c236 c237 c238 c239 c240 c241 c242 c243 c244 c245 c246 c247 c248 c249 c250 c251 c252 c253 c254 c255 c256 c257 c258 c259 c260 c261 c262 c263 c264 c265 c266 c267 c268 c269 c270 c271 c272 c273 c274 c275 c276 c277 c278 c279 c280 c281 c282 c283 c284 : Value) (xs : List UInt8) (B : Nat) (w : World) (v0 : Value) (hB : B ≤ w.heap.size) (hlz : (xs.length : Int) ≤ 1000000) (h0 : Hid (PadRel w B xs v0 w)) {Q : Exit → Act → World → Prop}
    (HQ : Hid (∀ (u32 u33 u34 u35 u36 u37 u38 v : Value) (wx : World), Hid (wx.ownsRow B 5 1 v (xs.length + 1 + padN xs.length) ((xs ++ [128] ++ List.replicate (padN xs.length) 0).map bv)) → Hid (Below B w wx) → Q (.exit 0) ⟨List.toArray (c0 :: c1 :: c2 :: v :: c4 :: c5 :: c6 :: c7 :: c8 :: c9 :: c10 :: c11 :: c12 :: c13 :: c14 :: c15 :: c16 :: c17 :: c18 :: c19 :: c20 :: c21 :: c22 :: c23 :: c24 :: c25 :: c26 :: c27 :: c28 :: c29 :: c30 :: c31 :: u32 :: u33 :: u34 :: u35 :: u36 :: u37 :: u38 :: c39 :: c40 :: c41 :: c42 :: c43 :: c44 :: c45 :: c46 :: c47 :: c48 :: c49 :: c50 :: c51 :: c52 :: c53 :: c54 :: c55 :: c56 :: c57 :: c58 :: c59 :: c60 :: c61 :: c62 :: c63 :: c64 :: c65 :: c66 :: c67 :: c68 :: c69 :: c70 :: c71 :: c72 :: c73 :: c74 :: c75 :: c76 :: c77 :: c78 :: c79 :: c80 :: c81 :: c82 :: c83 :: c84 :: c85 :: c86 :: c87 :: c88 :: c89 :: c90 :: c91 :: c92 :: c93 :: c94 :: c95 :: c96 :: c97 :: c98 :: c99 :: c100 :: c101 :: c102 :: c103 :: c104 :: c105 :: c106 :: c107 :: c108 :: c109 :: c110 :: c111 :: c112 :: c113 :: c114 :: c115 :: c116 :: c117 :: c118 :: c119 :: c120 :: c121 :: c122 :: c123 :: c124 :: c125 :: c126 :: c127 :: c128 :: c129 :: c130 :: c131 :: c132 :: c133 :: c134 :: c135 :: c136 :: c137 :: c138 :: c139 :: c140 :: c141 :: c142 :: c143 :: c144 :: c145 :: c146 :: c147 :: c148 :: c149 :: c150 :: c151 :: c152 :: c153 :: c154 :: c155 :: c156 :: c157 :: c158 :: c159 :: c160 :: c161 :: c162 :: c163 :: c164 :: c165 :: c166 :: c167 :: c168 :: c169 :: c170 :: c171 :: c172 :: c173 :: c174 :: c175 :: c176 :: c177 :: c178 :: c179 :: c180 :: c181 :: c182 :: c183 :: c184 :: c185 :: c186 :: c187 :: c188 :: c189 :: c190 :: c191 :: c192 :: c193 :: c194 :: c195 :: c196 :: c197 :: c198 :: c199 :: c200 :: c201 :: c202 :: c203 :: c204 :: c205 :: c206 :: c207 :: c208 :: c209 :: c210 :: c211 :: c212 :: c213 :: c214 :: c215 :: c216 :: c217 :: c218 :: c219 :: c220 :: c221 :: c222 :: c223 :: c224 :: c225 :: c226 :: c227 :: c228 :: c229 :: c230 :: c231 :: c232 :: c233 :: c234 :: c235 :: c236 :: c237 :: c238 :: c239 :: c240 :: c241 :: c242 :: c243 :: c244 :: c245 :: c246 :: c247 :: c248 :: c249 :: c250 :: c251 :: c252 :: c253 :: c254 :: c255 :: c256 :: c257 :: c258 :: c259 :: c260 :: c261 :: c262 :: c263 :: c264 :: c265 :: c266 :: c267 :: c268 :: c269 :: c270 :: c271 :: c272 :: c273 :: c274 :: c275 :: c276 :: c277 :: c278 :: c279 :: c280 :: c281 :: c282 :: c283 :: c284 :: []), []⟩ wx)) :
    (Code.loop body_pad).wp Tryd.prog Q ⟨List.toArray (c0 :: c1 :: c2 :: v0 :: c4 :: c5 :: c6 :: c7 :: c8 :: c9 :: c10 :: c11 :: c12 :: c13 :: c14 :: c15 :: c16 :: c17 :: c18 :: c19 :: c20 :: c21 :: c22 :: c23 :: c24 :: c25 :: c26 :: c27 :: c28 :: c29 :: c30 :: c31 :: c32 :: c33 :: c34 :: c35 :: c36 :: c37 :: c38 :: c39 :: c40 :: c41 :: c42 :: c43 :: c44 :: c45 :: c46 :: c47 :: c48 :: c49 :: c50 :: c51 :: c52 :: c53 :: c54 :: c55 :: c56 :: c57 :: c58 :: c59 :: c60 :: c61 :: c62 :: c63 :: c64 :: c65 :: c66 :: c67 :: c68 :: c69 :: c70 :: c71 :: c72 :: c73 :: c74 :: c75 :: c76 :: c77 :: c78 :: c79 :: c80 :: c81 :: c82 :: c83 :: c84 :: c85 :: c86 :: c87 :: c88 :: c89 :: c90 :: c91 :: c92 :: c93 :: c94 :: c95 :: c96 :: c97 :: c98 :: c99 :: c100 :: c101 :: c102 :: c103 :: c104 :: c105 :: c106 :: c107 :: c108 :: c109 :: c110 :: c111 :: c112 :: c113 :: c114 :: c115 :: c116 :: c117 :: c118 :: c119 :: c120 :: c121 :: c122 :: c123 :: c124 :: c125 :: c126 :: c127 :: c128 :: c129 :: c130 :: c131 :: c132 :: c133 :: c134 :: c135 :: c136 :: c137 :: c138 :: c139 :: c140 :: c141 :: c142 :: c143 :: c144 :: c145 :: c146 :: c147 :: c148 :: c149 :: c150 :: c151 :: c152 :: c153 :: c154 :: c155 :: c156 :: c157 :: c158 :: c159 :: c160 :: c161 :: c162 :: c163 :: c164 :: c165 :: c166 :: c167 :: c168 :: c169 :: c170 :: c171 :: c172 :: c173 :: c174 :: c175 :: c176 :: c177 :: c178 :: c179 :: c180 :: c181 :: c182 :: c183 :: c184 :: c185 :: c186 :: c187 :: c188 :: c189 :: c190 :: c191 :: c192 :: c193 :: c194 :: c195 :: c196 :: c197 :: c198 :: c199 :: c200 :: c201 :: c202 :: c203 :: c204 :: c205 :: c206 :: c207 :: c208 :: c209 :: c210 :: c211 :: c212 :: c213 :: c214 :: c215 :: c216 :: c217 :: c218 :: c219 :: c220 :: c221 :: c222 :: c223 :: c224 :: c225 :: c226 :: c227 :: c228 :: c229 :: c230 :: c231 :: c232 :: c233 :: c234 :: c235 :: c236 :: c237 :: c238 :: c239 :: c240 :: c241 :: c242 :: c243 :: c244 :: c245 :: c246 :: c247 :: c248 :: c249 :: c250 :: c251 :: c252 :: c253 :: c254 :: c255 :: c256 :: c257 :: c258 :: c259 :: c260 :: c261 :: c262 :: c263 :: c264 :: c265 :: c266 :: c267 :: c268 :: c269 :: c270 :: c271 :: c272 :: c273 :: c274 :: c275 :: c276 :: c277 :: c278 :: c279 :: c280 :: c281 :: c282 :: c283 :: c284 :: []), []⟩ w := by
  obtain ⟨i0, hi, hz0, hz1, hz2⟩ := info_parts info_u8
  unfold body_pad
  conv => arg 2; arg 1; whnf
  go_loopw [3] (fun v wr => PadRel w B xs v wr) (fun v _ => xs.length + 1 + 64 - slLen v)
  case atStart => exact h0.out
  case round =>
    obtain ⟨j, g, cp, rfl, hj, own, bl, hcp, hcm⟩ := hrel
    have hBs : B ≤ wr.heap.size := Nat.le_trans hB bl.size
    have hj64 : j ≤ 63 := by unfold padN at hj; omega
    unfold maxLen at hcm
    by_cases hlt : j < padN xs.length
    · have hne : ((xs.length : Int) + 1 + j) % 64 ≠ 56 := by unfold padN at hlt hj; omega
      clear hj
      go_wp2_with (at_builtin
                   refine wpList_append_one _ _ _ rfl _ _ _ rfl B 5 i0 _ 1 Tryd.underlying23 hi hz0 hz1 hz2 rfl rfl _ _ _ rfl own rfl ?_ ?_ ?_ ?_
                   · unfold maxLen; omega
                   · omega
                   · exact hBs
                   intro v3 w3 own3 b3)
      refine ⟨padRel_mk (j := j + 1) (by omega) ?_ (bl.trans b3), by
        obtain ⟨g3, c3, hv3, _⟩ := own_form own3 (by omega)
        rw [hv3]
        simp only [slLen]
        omega⟩
      rw [List.replicate_succ']
      simpa [bv, Nat.add_assoc] using own3
    · have hne : ((xs.length : Int) + 1 + j) % 64 = 56 := by unfold padN at hlt hj; omega
      obtain rfl : j = padN xs.length := by omega
      have HO := Lib.hid own
      have HL := Lib.hid bl
      clear own bl hj
      go_wp2_with (fail)
      exact HQ.out _ _ _ _ _ _ _ _ _ HO HL
end Go.Proofs.YtnaccngcpjkmbaaDoor
