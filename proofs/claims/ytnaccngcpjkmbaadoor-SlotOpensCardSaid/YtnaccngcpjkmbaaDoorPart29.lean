/- Part 29 of the words that the laws share: RefLoopE. No condition of its own: each theorem says its own. -/
import Derived.Test.YtnaccngcpjkmbaaDoorPart27
import Derived.Test.YtnaccngcpjkmbaaDoorPart28
import Derived.StillTailTactics

/- The second reference's Sum: the loop over blocks. Conditions: whole blocks. -/
namespace Go.Proofs.YtnaccngcpjkmbaaDoor
open Go.RowKit

theorem blkRel_mk {w w3 : World} {m : List UInt8} {q : Nat} {s t : St} (hs : s = blocks m q) (ht : t = rnds s (schedN 48 (wordsAt m (64 * q) 16)) 64) (hq : 64 * q + 64 ≤ m.length) (h : Below w.heap.size w w3) :
    BlkRel w m (.slice (some ⟨w3.heap.size, 0, none⟩) 8 8) (.int .i64 (64 * (q : Int) + 64)) (w3.alloc (.cells ((s.add t).list.map wv).toArray 87)).drew := by
  refine ⟨q + 1, congrArg (Value.int .i64) (by omega), by omega, ?_, (h.alloc h.size _).drew⟩
  have e : (blocks m (q + 1)).list = (s.add t).list := by rw [blocks, ← hs, block, ht]
  rw [e]
  exact rw_lit (w := w3) (t := 87) (ds := (s.add t).list) (by simp [St.list])
noncomputable def body_blks : Code := (((Tryd.f27.body.map loopsOf).getD [])[1]?).getD .skip
set_option maxRecDepth 100000 in
set_option maxHeartbeats 4000000 in
theorem blks_loop (c0 c1 c2 c7 c8 c9 c10 c11 c12 c13 c14 c15 c16 c17 c18 c19 c20 c21 c22 c23 c24 c25 c26 c27 c28 c29 c30 c31 c32 c33 c34 c35 c36 c37 c38 c39 c40 c41 c42 c43 c44 c45 c46 c47 c48 c49 c50 c51 c52 c53 c54 c55 c56 c57 c58 c59 c60 c61 c62 c63 c64 c65 c66 c67 c68 c69 c70 c71 c72 c73 c74 c75 c76 c77 c78 c79 c80 c81 c82 c83 c84 c85 c86 c87 c88 c89 c90 c91 c92 c93 c94 c95 c96 c97 c98 c99 c100 c101 c102 c103 c104 c105 c106 c107 c108 c109 c110 c111 c112 c113 c114 c115 c116 c117 c118 c119 c120 c121 c122 c123 c124 c125 c126 c127 c128 c129 c130 c131 c132 c133 c134 c135 c136 c137 c138 c139 c140 c141 c142 c143 c144 c145 c146 c147 c148 c149 c150 c151 c152 c153 c154 c155 c156 c157 c158 c159 c160 c161 c162 c163 c164 c165 c166 c167 c168 c169 c170 c171 c172 c173 c174 c175 c176 c177 c178 c179 c180 c181 c182 c183 c184 c185 c186 c187 c188 c189 c190 c191 c192 c193 c194 c195 c196 c197 c198 c199 c200 c201 c202 c203 c204 c205 c206 c207 c208 c209 c210 c211 c212 c213 c214 c215 c216 c217 c218 c219 c220 c221 c222 c223 c224 c225 c226 c227 c228 c229 c230 c231 c232 c233 c234 c235 c236 c237 c238 c239 c240 c241 c242 c243 c244 c245 c246 c247 c248 c249 c250 c251 c252 c253 c254 c255 c256 c257 c258 c259 c260 c261 c262 c263 c264 c265 c266 c267 c268 c269 c270 c271 c272 c273 c274 c275 c276 c277 c278 c279 c280 c281 c282 c283 c284 : Value) (m : List UInt8) (gm cm : Nat) (w : World) (vh vk : Value) (hm : Hid (Rd w (.slice (some ⟨gm, 0, none⟩) m.length cm) m)) (hk : Hid (Rw w vk kT)) (hh : Hid (Rw w vh (blocks m 0).list)) (M64 : Hid (m.length % 64 = 0)) (hml : (m.length : Int) ≤ 1000100) (hcm : m.length ≤ cm) (hcm2 : (cm : Int) ≤ 9223372036854775807) {Q : Exit → Act → World → Prop}
    (HQ : Hid (∀ (u6 u7 u8 u9 u10 u11 u12 u13 u14 u15 u16 u17 u18 u19 u20 u21 u22 u23 u48 u49 u50 u51 u52 u53 u54 u55 u56 u57 u58 u59 u60 u61 u62 u63 u64 u65 u66 u67 u68 u69 u70 u71 u72 u73 u74 u75 u76 u77 u78 u79 u80 u81 u82 u83 u84 u85 u86 u87 u88 u89 u90 u91 u92 u93 u94 u95 u96 u97 u98 u99 u100 u101 u102 u103 u104 u105 u106 u107 u108 u109 u110 u111 u112 u113 u114 u115 u116 u117 u118 u119 u120 u121 u122 u123 u124 u125 u126 u127 u128 u129 u130 u131 u132 u133 u134 u135 u136 u137 u138 u139 u140 u141 u142 u143 u144 u145 u146 u147 u148 u149 u150 u151 u152 u153 u154 u155 u156 u157 u158 u159 u160 u161 u162 u163 u164 u165 u166 u167 u168 u169 u170 u171 u172 u173 u174 u175 u176 u177 u178 u179 u180 u181 u182 u183 u184 u185 u186 u187 u188 u189 u190 u191 u192 u193 u194 u195 u196 u197 u198 u199 u200 u201 u202 u203 u204 u205 u206 u207 u208 u209 u210 u211 u212 u213 u214 u215 u216 u217 u218 u219 u220 u221 u222 u223 u224 u225 u226 u227 u228 u229 u230 u231 u232 u233 u234 u235 u236 u237 u238 u239 u240 u241 u242 u243 u244 u245 u246 u247 u248 u249 u250 u251 u252 u253 u254 u255 u256 u257 u258 u259 u260 u261 u262 u263 u264 u265 u266 v : Value) (wx : World), Hid (Rw wx v (blocks m (m.length / 64)).list) → Hid (Below w.heap.size w wx) → Q (.exit 2) ⟨List.toArray (c0 :: c1 :: c2 :: (.slice (some ⟨gm, 0, none⟩) m.length cm) :: v :: vk :: u6 :: u7 :: u8 :: u9 :: u10 :: u11 :: u12 :: u13 :: u14 :: u15 :: u16 :: u17 :: u18 :: u19 :: u20 :: u21 :: u22 :: u23 :: c24 :: c25 :: c26 :: c27 :: c28 :: c29 :: c30 :: c31 :: c32 :: c33 :: c34 :: c35 :: c36 :: c37 :: c38 :: c39 :: c40 :: c41 :: c42 :: c43 :: c44 :: c45 :: c46 :: c47 :: u48 :: u49 :: u50 :: u51 :: u52 :: u53 :: u54 :: u55 :: u56 :: u57 :: u58 :: u59 :: u60 :: u61 :: u62 :: u63 :: u64 :: u65 :: u66 :: u67 :: u68 :: u69 :: u70 :: u71 :: u72 :: u73 :: u74 :: u75 :: u76 :: u77 :: u78 :: u79 :: u80 :: u81 :: u82 :: u83 :: u84 :: u85 :: u86 :: u87 :: u88 :: u89 :: u90 :: u91 :: u92 :: u93 :: u94 :: u95 :: u96 :: u97 :: u98 :: u99 :: u100 :: u101 :: u102 :: u103 :: u104 :: u105 :: u106 :: u107 :: u108 :: u109 :: u110 :: u111 :: u112 :: u113 :: u114 :: u115 :: u116 :: u117 :: u118 :: u119 :: u120 :: u121 :: u122 :: u123 :: u124 :: u125 :: u126 :: u127 :: u128 :: u129 :: u130 :: u131 :: u132 :: u133 :: u134 :: u135 :: u136 :: u137 :: u138 :: u139 :: u140 :: u141 :: u142 :: u143 :: u144 :: u145 :: u146 :: u147 :: u148 :: u149 :: u150 :: u151 :: u152 :: u153 :: u154 :: u155 :: u156 :: u157 :: u158 :: u159 :: u160 :: u161 :: u162 :: u163 :: u164 :: u165 :: u166 :: u167 :: u168 :: u169 :: u170 :: u171 :: u172 :: u173 :: u174 :: u175 :: u176 :: u177 :: u178 :: u179 :: u180 :: u181 :: u182 :: u183 :: u184 :: u185 :: u186 :: u187 :: u188 :: u189 :: u190 :: u191 :: u192 :: u193 :: u194 :: u195 :: u196 :: u197 :: u198 :: u199 :: u200 :: u201 :: u202 :: u203 :: u204 :: u205 :: u206 :: u207 :: u208 :: u209 :: u210 :: u211 :: u212 :: u213 :: u214 :: u215 :: u216 :: u217 :: u218 :: u219 :: u220 :: u221 :: u222 :: u223 :: u224 :: u225 :: u226 :: u227 :: u228 :: u229 :: u230 :: u231 :: u232 :: u233 :: u234 :: u235 :: u236 :: u237 :: u238 :: u239 :: u240 :: u241 :: u242 :: u243 :: u244 :: u245 :: u246 :: u247 :: u248 :: u249 :: u250 :: u251 :: u252 :: u253 :: u254 :: u255 :: u256 :: u257 :: u258 :: u259 :: u260 :: u261 :: u262 :: u263 :: u264 :: u265 :: u266 :: c267 :: c268 :: c269 :: c270 :: c271 :: c272 :: c273 :: c274 :: c275 :: c276 :: c277 :: c278 :: c279 :: c280 :: c281 :: c282 :: c283 :: c284 :: []), []⟩ wx)) :
    (Code.loop body_blks).wp Tryd.prog Q ⟨List.toArray (c0 :: c1 :: c2 :: (.slice (some ⟨gm, 0, none⟩) m.length cm) :: vh :: vk :: (.int .i64 0) :: c7 :: c8 :: c9 :: c10 :: c11 :: c12 :: c13 :: c14 :: c15 :: c16 :: c17 :: c18 :: c19 :: c20 :: c21 :: c22 :: c23 :: c24 :: c25 :: c26 :: c27 :: c28 :: c29 :: c30 :: c31 :: c32 :: c33 :: c34 :: c35 :: c36 :: c37 :: c38 :: c39 :: c40 :: c41 :: c42 :: c43 :: c44 :: c45 :: c46 :: c47 :: c48 :: c49 :: c50 :: c51 :: c52 :: c53 :: c54 :: c55 :: c56 :: c57 :: c58 :: c59 :: c60 :: c61 :: c62 :: c63 :: c64 :: c65 :: c66 :: c67 :: c68 :: c69 :: c70 :: c71 :: c72 :: c73 :: c74 :: c75 :: c76 :: c77 :: c78 :: c79 :: c80 :: c81 :: c82 :: c83 :: c84 :: c85 :: c86 :: c87 :: c88 :: c89 :: c90 :: c91 :: c92 :: c93 :: c94 :: c95 :: c96 :: c97 :: c98 :: c99 :: c100 :: c101 :: c102 :: c103 :: c104 :: c105 :: c106 :: c107 :: c108 :: c109 :: c110 :: c111 :: c112 :: c113 :: c114 :: c115 :: c116 :: c117 :: c118 :: c119 :: c120 :: c121 :: c122 :: c123 :: c124 :: c125 :: c126 :: c127 :: c128 :: c129 :: c130 :: c131 :: c132 :: c133 :: c134 :: c135 :: c136 :: c137 :: c138 :: c139 :: c140 :: c141 :: c142 :: c143 :: c144 :: c145 :: c146 :: c147 :: c148 :: c149 :: c150 :: c151 :: c152 :: c153 :: c154 :: c155 :: c156 :: c157 :: c158 :: c159 :: c160 :: c161 :: c162 :: c163 :: c164 :: c165 :: c166 :: c167 :: c168 :: c169 :: c170 :: c171 :: c172 :: c173 :: c174 :: c175 :: c176 :: c177 :: c178 :: c179 :: c180 :: c181 :: c182 :: c183 :: c184 :: c185 :: c186 :: c187 :: c188 :: c189 :: c190 :: c191 :: c192 :: c193 :: c194 :: c195 :: c196 :: c197 :: c198 :: c199 :: c200 :: c201 :: c202 :: c203 :: c204 :: c205 :: c206 :: c207 :: c208 :: c209 :: c210 :: c211 :: c212 :: c213 :: c214 :: c215 :: c216 :: c217 :: c218 :: c219 :: c220 :: c221 :: c222 :: c223 :: c224 :: c225 :: c226 :: c227 :: c228 :: c229 :: c230 :: c231 :: c232 :: c233 :: c234 :: c235 :: c236 :: c237 :: c238 :: c239 :: c240 :: c241 :: c242 :: c243 :: c244 :: c245 :: c246 :: c247 :: c248 :: c249 :: c250 :: c251 :: c252 :: c253 :: c254 :: c255 :: c256 :: c257 :: c258 :: c259 :: c260 :: c261 :: c262 :: c263 :: c264 :: c265 :: c266 :: c267 :: c268 :: c269 :: c270 :: c271 :: c272 :: c273 :: c274 :: c275 :: c276 :: c277 :: c278 :: c279 :: c280 :: c281 :: c282 :: c283 :: c284 :: []), []⟩ w := by
  unfold body_blks
  conv => arg 2; arg 1; whnf
  go_loopw [4, 6] (fun h a wx => BlkRel w m h a wx) (fun _ a _ => m.length - (intOf a).toNat)
  case atStart => exact ⟨0, rfl, by omega, hh.out, Below.refl _ _⟩
  case round =>
    obtain ⟨q, rfl, hq, rh, bl⟩ := hrel
    by_cases hlt : 64 * q < m.length
    · have hq2 : 64 * q + 64 ≤ m.length := by have := M64.out; omega
      have hltI : 64 * (q : Int) < m.length := by omega
      have HM2 := Lib.hid (hm.out.below bl)
      have HK2 := Lib.hid (hk.out.below bl)
      have HH2 := Lib.hid rh
      have HB := Lib.hid bl
      clear rh bl
      go_wp2_with (fail)
      refine words_loop _ _ _ _ _ _ _ _ _ _ _ _ _ _ _ _ _ _ _ _ _ _ _ _ _ _ _ _ _ _ _ _ _ _ _ _ _ _ _ _ _ _ _ _ _ _ _ _ _ _ _ _ _ _ _ _ _ _ _ _ _ _ _ _ _ _ _ _ _ _ _ _ _ _ _ _ _ _ _ _ _ _ _ _ _ _ _ _ _ _ _ _ _ _ _ _ _ _ _ _ _ _ _ _ _ _ _ _ _ _ _ _ _ _ _ _ _ _ _ _ _ _ _ _ _ _ _ _ _ _ _ _ _ _ _ _ _ _ _ _ _ _ _ _ _ _ _ _ _ _ _ _ _ _ _ _ _ _ _ _ _ _ _ _ _ _ _ _ _ _ _ _ _ _ _ _ _ _ _ _ _ _ _ _ _ _ _ _ _ _ _ _ _ _ _ _ _ _ _ _ _ _ _ _ _ _ _ _ _ _ _ _ _ _ _ _ _ _ _ _ _ _ _ _ _ _ _ _ _ _ _ _ _ _ _ _ _ _ _ _ _ _ _ _ _ _ _ _ _ _ _ _ _ _ _ _ _ _ _ _ _ _ _ _ _ _ _ _ _ _ _ _ _ _ _ _ _ _ _ _ _ m q gm cm wr HM2 hq2 hml hcm hcm2 (Lib.hid ?_)
      intro u8 u54 u55 u56 u57 u58 u59 u60 u61 u62 u63 u64 u65 u66 u67 u68 u69 u70 u71 u72 u73 v1 w1 ho1 hb1
      go_wp2_with (fail)
      refine sched_loop _ _ _ _ _ _ _ _ _ _ _ _ _ _ _ _ _ _ _ _ _ _ _ _ _ _ _ _ _ _ _ _ _ _ _ _ _ _ _ _ _ _ _ _ _ _ _ _ _ _ _ _ _ _ _ _ _ _ _ _ _ _ _ _ _ _ _ _ _ _ _ _ _ _ _ _ _ _ _ _ _ _ _ _ _ _ _ _ _ _ _ _ _ _ _ _ _ _ _ _ _ _ _ _ _ _ _ _ _ _ _ _ _ _ _ _ _ _ _ _ _ _ _ _ _ _ _ _ _ _ _ _ _ _ _ _ _ _ _ _ _ _ _ _ _ _ _ _ _ _ _ _ _ _ _ _ _ _ _ _ _ _ _ _ _ _ _ _ _ _ _ _ _ _ _ _ _ _ _ _ _ _ _ _ _ _ _ _ _ _ _ _ _ _ _ _ _ _ _ _ _ _ _ _ _ _ _ _ _ _ _ _ _ _ _ _ _ _ _ _ _ _ _ _ _ _ _ _ _ _ _ _ _ _ _ _ _ _ _ _ _ _ _ _ _ _ _ _ _ _ _ _ _ _ _ _ _ _ _ _ _ _ _ _ _ _ _ _ _ _ _ _ _ _ _ _ _ _ _ _ _ _ _ (wordsAt m (64 * q) 16) (Lib.hid ⟨wordsAt_length _ _ _, wordsAt_lt _ _ _⟩) wr w1 v1 (Lib.hid (schedRel_mk (k := 16) (by omega) (by omega) ho1.out hb1.out)) (Lib.hid ?_)
      intro u9 u10 u11 u74 u75 u76 u77 u78 u79 u80 u81 u82 u83 u84 u85 u86 u87 u88 u89 u90 u91 u92 u93 u94 u95 u96 u97 u98 u99 u100 u101 u102 u103 u104 u105 u106 u107 u108 u109 u110 u111 u112 u113 u114 u115 u116 u117 u118 u119 u120 u121 u122 u123 u124 u125 u126 u127 u128 u129 u130 u131 u132 u133 u134 u135 v2 w2 ho2 hb2
      have HW := Lib.hid (rw_of_own ho2.out (by omega))
      have HK4 := Lib.hid (HK2.out.below hb2.out)
      have hok := blocks_ok m q
      obtain ⟨gh, ch, hv, a1, a2, a3, a4⟩ := HH2.out.below hb2.out
      have hv' : u4 = .slice (some ⟨gh, 0, none⟩) 8 ch := hv
      subst hv'
      clear hv
      obtain ⟨⟨sa, sb, sc, sd, se, sf, sg, sh⟩, hs⟩ : ∃ t, t = blocks m q := ⟨_, rfl⟩
      rw [← hs] at a4 hok
      have HS := Lib.hid hs
      have x0 : w2.cell? ⟨gh, 0, none⟩ = some (.int .u32 (sa : Int)) := a4 0 (by simp [St.list])
      have x1 : w2.cell? ⟨gh, 1, none⟩ = some (.int .u32 (sb : Int)) := a4 1 (by simp [St.list])
      have x2 : w2.cell? ⟨gh, 2, none⟩ = some (.int .u32 (sc : Int)) := a4 2 (by simp [St.list])
      have x3 : w2.cell? ⟨gh, 3, none⟩ = some (.int .u32 (sd : Int)) := a4 3 (by simp [St.list])
      have x4 : w2.cell? ⟨gh, 4, none⟩ = some (.int .u32 (se : Int)) := a4 4 (by simp [St.list])
      have x5 : w2.cell? ⟨gh, 5, none⟩ = some (.int .u32 (sf : Int)) := a4 5 (by simp [St.list])
      have x6 : w2.cell? ⟨gh, 6, none⟩ = some (.int .u32 (sg : Int)) := a4 6 (by simp [St.list])
      have x7 : w2.cell? ⟨gh, 7, none⟩ = some (.int .u32 (sh : Int)) := a4 7 (by simp [St.list])
      clear hs a4
      go_wp2_with (fail)
      go_quiet (fail)
      go_wp2_with (fail)
      refine rounds_loop _ _ _ _ _ _ _ _ _ _ _ _ _ _ _ _ _ _ _ _ _ _ _ _ _ _ _ _ _ _ _ _ _ _ _ _ _ _ _ _ _ _ _ _ _ _ _ _ _ _ _ _ _ _ _ _ _ _ _ _ _ _ _ _ _ _ _ _ _ _ _ _ _ _ _ _ _ _ _ _ _ _ _ _ _ _ _ _ _ _ _ _ _ _ _ _ _ _ _ _ _ _ _ _ _ _ _ _ _ _ _ _ _ _ _ _ _ _ _ _ _ _ _ _ _ _ _ _ _ _ _ _ _ _ _ _ _ _ _ _ _ _ _ _ _ _ _ _ _ _ _ _ _ _ _ _ _ _ _ _ _ _ _ _ _ _ _ _ _ _ _ _ _ _ _ _ _ _ _ _ _ _ _ _ _ _ _ _ _ _ _ _ _ _ _ _ _ _ _ _ _ _ _ _ _ _ _ _ _ _ _ _ _ _ _ _ _ _ _ _ _ _ _ _ _ _ _ _ _ _ _ _ _ _ _ _ _ _ _ _ _ _ _ _ _ _ _ _ _ _ _ _ _ _ _ _ _ _ _ _ _ _ _ _ _ _ _ _ _ _ _ _ _ _ ⟨sa, sb, sc, sd, se, sf, sg, sh⟩ (Lib.hid hok) (schedN 48 (wordsAt m (64 * q) 16)) (Lib.hid ⟨by rw [schedN_length, wordsAt_length], schedN_lt (wordsAt_lt _ _ _) 48⟩) _ _ _ (Lib.hid (HK4.out.drewN _)) (Lib.hid (HW.out.drewN _)) (Lib.hid ?_)
      intro u20 u21 u22 u23 u160 u161 u162 u163 u164 u165 u166 u167 u168 u169 u170 u171 u172 u173 u174 u175 u176 u177 u178 u179 u180 u181 u182 u183 u184 u185 u186 u187 u188 u189 u190 u191 u192 u193 u194 u195 u196 u197 u198 u199 u200 u201 u202 u203 u204 u205 u206 u207 u208 u209 u210 u211 u212 u213 u214 u215 u216 u217 u218 u219 u220 u221 u222 u223 u224 u225 n t ht
      have HT := Lib.hid ht.out
      have tok : t.ok := by rw [ht.out]; exact rnds_ok hok _ 64
      obtain ⟨ta, tb, tc, td, te, tf, tg, th⟩ := t
      obtain ⟨o1, o2, o3, o4, o5, o6, o7, o8⟩ := hok
      obtain ⟨p1, p2, p3, p4, p5, p6, p7, p8⟩ := tok
      simp only at o1 o2 o3 o4 o5 o6 o7 o8 p1 p2 p3 p4 p5 p6 p7 p8
      unfold wv
      dsimp only
      obtain ⟨w3, hw3⟩ : ∃ W : World, W = (w2.drewN nq).drewN n := ⟨_, rfl⟩
      have y0 : w3.cell? ⟨gh, 0, none⟩ = some (.int .u32 (sa : Int)) := hw3 ▸ x0
      have y1 : w3.cell? ⟨gh, 1, none⟩ = some (.int .u32 (sb : Int)) := hw3 ▸ x1
      have y2 : w3.cell? ⟨gh, 2, none⟩ = some (.int .u32 (sc : Int)) := hw3 ▸ x2
      have y3 : w3.cell? ⟨gh, 3, none⟩ = some (.int .u32 (sd : Int)) := hw3 ▸ x3
      have y4 : w3.cell? ⟨gh, 4, none⟩ = some (.int .u32 (se : Int)) := hw3 ▸ x4
      have y5 : w3.cell? ⟨gh, 5, none⟩ = some (.int .u32 (sf : Int)) := hw3 ▸ x5
      have y6 : w3.cell? ⟨gh, 6, none⟩ = some (.int .u32 (sg : Int)) := hw3 ▸ x6
      have y7 : w3.cell? ⟨gh, 7, none⟩ = some (.int .u32 (sh : Int)) := hw3 ▸ x7
      have B3 : Hid (Below w.heap.size w w3) := Lib.hid (hw3 ▸ below_drewN (below_drewN (HB.out.trans (hb2.out.mono HB.out.size)) nq) n)
      rw [← hw3]
      clear hw3 x0 x1 x2 x3 x4 x5 x6 x7
      go_wp2_with (fail)
      go_still_tail 40, (by kernel_rfl)
      change wpList _ _ _ _ _ w3.drew
      go_wp2_with (fail)
      go_roundw
      case rel =>
        have e : ∀ x y : Nat, Value.int .u32 (((x : Int) + (y : Int)) % 4294967296) = wv ((x + y) % 4294967296) := fun x y => congrArg (Value.int .u32) (by omega)
        simp only [e]
        exact blkRel_mk (s := ⟨sa, sb, sc, sd, se, sf, sg, sh⟩) (t := ⟨ta, tb, tc, td, te, tf, tg, th⟩) HS.out HT.out hq2 B3.out
      case measure => simp [intOf]; omega
    · obtain rfl : q = m.length / 64 := by have := M64.out; omega
      have HB := Lib.hid bl
      have HH := Lib.hid rh
      have hltI : (m.length : Int) ≤ 64 * ((m.length / 64 : Nat) : Int) := by have := M64.out; omega
      clear bl rh
      go_wp2_with (fail)
      exact HQ.out _ _ _ _ _ _ _ _ _ _ _ _ _ _ _ _ _ _ _ _ _ _ _ _ _ _ _ _ _ _ _ _ _ _ _ _ _ _ _ _ _ _ _ _ _ _ _ _ _ _ _ _ _ _ _ _ _ _ _ _ _ _ _ _ _ _ _ _ _ _ _ _ _ _ _ _ _ _ _ _ _ _ _ _ _ _ _ _ _ _ _ _ _ _ _ _ _ _ _ _ _ _ _ _ _ _ _ _ _ _ _ _ _ _ _ _ _ _ _ _ _ _ _ _ _ _ _ _ _ _ _ _ _ _ _ _ _ _ _ _ _ _ _ _ _ _ _ _ _ _ _ _ _ _ _ _ _ _ _ _ _ _ _ _ _ _ _ _ _ _ _ _ _ _ _ _ _ _ _ _ _ _ _ _ _ _ _ _ _ _ _ _ _ _ _ _ _ _ _ _ _ _ _ _ _ _ _ _ _ _ _ _ _ _ _ _ _ _ _ _ _ _ _ _ _ _ _ _ _ _ _ _ _ _ _ _ _ _ _ HH HB
end Go.Proofs.YtnaccngcpjkmbaaDoor
