/- Part 27 of the words that the laws share: RefLoopA. No condition of its own: each theorem says its own. -/
import Derived.Test.YtnaccngcpjkmbaaDoorPart6
import Derived.Test.YtnaccngcpjkmbaaDoorPart3

/- The second reference's Sum: the loop over a block's further words. Conditions: sixteen words that fit uint32. -/
namespace Go.Proofs.YtnaccngcpjkmbaaDoor
open Go.RowKit

noncomputable def body_sched : Code := (((Tryd.f27.body.map loopsOf).getD [])[3]?).getD .skip
set_option maxRecDepth 100000 in
set_option maxHeartbeats 2000000 in
theorem sched_loop (c0 c1 c2 c3 c4 c5 c6 c8 c10 c11 c12 c13 c14 c15 c16 c17 c18 c19 c20 c21 c22 c23 c24 c25 c26 c27 c28 c29 c30 c31 c32 c33 c34 c35 c36 c37 c38 c39 c40 c41 c42 c43 c44 c45 c46 c47 c48 c49 c50 c51 c52 c53 c54 c55 c56 c57 c58 c59 c60 c61 c62 c63 c64 c65 c66 c67 c68 c69 c70 c71 c72 c73 c74 c75 c76 c77 c78 c79 c80 c81 c82 c83 c84 c85 c86 c87 c88 c89 c90 c91 c92 c93 c94 c95 c96 c97 c98 c99 c100 c101 c102 c103 c104 c105 c106 c107 c108 c109 c110 c111 c112 c113 c114 c115 c116 c117 c118 c119 c120 c121 c122 c123 c124 c125 c126 c127 c128 c129 c130 c131 c132 c133 c134 c135 c136 c137 c138 c139 c140 c141 c142 c143 c144 c145 c146 c147 c148 c149 c150 c151 c152 c153 c154 c155 c156 c157 c158 c159 c160 c161 c162 c163 c164 c165 c166 c167 c168 c169 c170 c171 c172 c173 c174 c175 c176 c177 c178 c179 c180 c181 c182 c183 c184 c185 c186 c187 c188 c189 c190 c191 c192 c193 c194 c195 c196 c197 c198 c199 c200 c201 c202 c203 c204 c205 c206 c207 c208 c209 c210 c211 c212 c213 c214 c215 c216 c217 c218 c219 c220 c221 c222 c223 c224 c225 c226 c227 c228 c229 c230 c231 c232 c233 c234 c235 c236 c237 c238 c239 c240 c241 c242 c243 c244 c245 c246 c247 c248 c249 c250 c251 c252 c253 c254 c255 c256 c257 c258 c259 c260 c261 c262 c263 c264 c265 c266 c267 c268 c269 c270 c271 c272 c273 c274 c275 c276 c277 c278 c279 c280 c281 c282 c283 c284 : Value) (ws : List Nat) (HWS : Hid (ws.length = 16 ∧ ∀ x ∈ ws, x < 4294967296)) (wb w : World) (v0 : Value) (h0 : Hid (SchedRel ws wb v0 (.int .i64 16) w)) {Q : Exit → Act → World → Prop}
    (HQ : Hid (∀ (u9 u10 u11 u74 u75 u76 u77 u78 u79 u80 u81 u82 u83 u84 u85 u86 u87 u88 u89 u90 u91 u92 u93 u94 u95 u96 u97 u98 u99 u100 u101 u102 u103 u104 u105 u106 u107 u108 u109 u110 u111 u112 u113 u114 u115 u116 u117 u118 u119 u120 u121 u122 u123 u124 u125 u126 u127 u128 u129 u130 u131 u132 u133 u134 u135 v : Value) (wx : World), Hid (wx.ownsRow wb.heap.size 87 1 v 64 ((schedN 48 ws).map wv)) → Hid (Below wb.heap.size wb wx) → Q (.exit 6) ⟨List.toArray (c0 :: c1 :: c2 :: c3 :: c4 :: c5 :: c6 :: v :: c8 :: u9 :: u10 :: u11 :: c12 :: c13 :: c14 :: c15 :: c16 :: c17 :: c18 :: c19 :: c20 :: c21 :: c22 :: c23 :: c24 :: c25 :: c26 :: c27 :: c28 :: c29 :: c30 :: c31 :: c32 :: c33 :: c34 :: c35 :: c36 :: c37 :: c38 :: c39 :: c40 :: c41 :: c42 :: c43 :: c44 :: c45 :: c46 :: c47 :: c48 :: c49 :: c50 :: c51 :: c52 :: c53 :: c54 :: c55 :: c56 :: c57 :: c58 :: c59 :: c60 :: c61 :: c62 :: c63 :: c64 :: c65 :: c66 :: c67 :: c68 :: c69 :: c70 :: c71 :: c72 :: c73 :: u74 :: u75 :: u76 :: u77 :: u78 :: u79 :: u80 :: u81 :: u82 :: u83 :: u84 :: u85 :: u86 :: u87 :: u88 :: u89 :: u90 :: u91 :: u92 :: u93 :: u94 :: u95 :: u96 :: u97 :: u98 :: u99 :: u100 :: u101 :: u102 :: u103 :: u104 :: u105 :: u106 :: u107 :: u108 :: u109 :: u110 :: u111 :: u112 :: u113 :: u114 :: u115 :: u116 :: u117 :: u118 :: u119 :: u120 :: u121 :: u122 :: u123 :: u124 :: u125 :: u126 :: u127 :: u128 :: u129 :: u130 :: u131 :: u132 :: u133 :: u134 :: u135 :: c136 :: c137 :: c138 :: c139 :: c140 :: c141 :: c142 :: c143 :: c144 :: c145 :: c146 :: c147 :: c148 :: c149 :: c150 :: c151 :: c152 :: c153 :: c154 :: c155 :: c156 :: c157 :: c158 :: c159 :: c160 :: c161 :: c162 :: c163 :: c164 :: c165 :: c166 :: c167 :: c168 :: c169 :: c170 :: c171 :: c172 :: c173 :: c174 :: c175 :: c176 :: c177 :: c178 :: c179 :: c180 :: c181 :: c182 :: c183 :: c184 :: c185 :: c186 :: c187 :: c188 :: c189 :: c190 :: c191 :: c192 :: c193 :: c194 :: c195 :: c196 :: c197 :: c198 :: c199 :: c200 :: c201 :: c202 :: c203 :: c204 :: c205 :: c206 :: c207 :: c208 :: c209 :: c210 :: c211 :: c212 :: c213 :: c214 :: c215 :: c216 :: c217 :: c218 :: c219 :: c220 :: c221 :: c222 :: c223 :: c224 :: c225 :: c226 :: c227 :: c228 :: c229 :: c230 :: c231 :: c232 :: c233 :: c234 :: c235 :: c236 :: c237 :: c238 :: c239 :: c240 :: c241 :: c242 :: c243 :: c244 :: c245 :: c246 :: c247 :: c248 :: c249 :: c250 :: c251 :: c252 :: c253 :: c254 :: c255 :: c256 :: c257 :: c258 :: c259 :: c260 :: c261 :: c262 :: c263 :: c264 :: c265 :: c266 :: c267 :: c268 :: c269 :: c270 :: c271 :: c272 :: c273 :: c274 :: c275 :: c276 :: c277 :: c278 :: c279 :: c280 :: c281 :: c282 :: c283 :: c284 :: []), []⟩ wx)) :
    (Code.loop body_sched).wp Tryd.prog Q ⟨List.toArray (c0 :: c1 :: c2 :: c3 :: c4 :: c5 :: c6 :: v0 :: c8 :: (.int .i64 16) :: c10 :: c11 :: c12 :: c13 :: c14 :: c15 :: c16 :: c17 :: c18 :: c19 :: c20 :: c21 :: c22 :: c23 :: c24 :: c25 :: c26 :: c27 :: c28 :: c29 :: c30 :: c31 :: c32 :: c33 :: c34 :: c35 :: c36 :: c37 :: c38 :: c39 :: c40 :: c41 :: c42 :: c43 :: c44 :: c45 :: c46 :: c47 :: c48 :: c49 :: c50 :: c51 :: c52 :: c53 :: c54 :: c55 :: c56 :: c57 :: c58 :: c59 :: c60 :: c61 :: c62 :: c63 :: c64 :: c65 :: c66 :: c67 :: c68 :: c69 :: c70 :: c71 :: c72 :: c73 :: c74 :: c75 :: c76 :: c77 :: c78 :: c79 :: c80 :: c81 :: c82 :: c83 :: c84 :: c85 :: c86 :: c87 :: c88 :: c89 :: c90 :: c91 :: c92 :: c93 :: c94 :: c95 :: c96 :: c97 :: c98 :: c99 :: c100 :: c101 :: c102 :: c103 :: c104 :: c105 :: c106 :: c107 :: c108 :: c109 :: c110 :: c111 :: c112 :: c113 :: c114 :: c115 :: c116 :: c117 :: c118 :: c119 :: c120 :: c121 :: c122 :: c123 :: c124 :: c125 :: c126 :: c127 :: c128 :: c129 :: c130 :: c131 :: c132 :: c133 :: c134 :: c135 :: c136 :: c137 :: c138 :: c139 :: c140 :: c141 :: c142 :: c143 :: c144 :: c145 :: c146 :: c147 :: c148 :: c149 :: c150 :: c151 :: c152 :: c153 :: c154 :: c155 :: c156 :: c157 :: c158 :: c159 :: c160 :: c161 :: c162 :: c163 :: c164 :: c165 :: c166 :: c167 :: c168 :: c169 :: c170 :: c171 :: c172 :: c173 :: c174 :: c175 :: c176 :: c177 :: c178 :: c179 :: c180 :: c181 :: c182 :: c183 :: c184 :: c185 :: c186 :: c187 :: c188 :: c189 :: c190 :: c191 :: c192 :: c193 :: c194 :: c195 :: c196 :: c197 :: c198 :: c199 :: c200 :: c201 :: c202 :: c203 :: c204 :: c205 :: c206 :: c207 :: c208 :: c209 :: c210 :: c211 :: c212 :: c213 :: c214 :: c215 :: c216 :: c217 :: c218 :: c219 :: c220 :: c221 :: c222 :: c223 :: c224 :: c225 :: c226 :: c227 :: c228 :: c229 :: c230 :: c231 :: c232 :: c233 :: c234 :: c235 :: c236 :: c237 :: c238 :: c239 :: c240 :: c241 :: c242 :: c243 :: c244 :: c245 :: c246 :: c247 :: c248 :: c249 :: c250 :: c251 :: c252 :: c253 :: c254 :: c255 :: c256 :: c257 :: c258 :: c259 :: c260 :: c261 :: c262 :: c263 :: c264 :: c265 :: c266 :: c267 :: c268 :: c269 :: c270 :: c271 :: c272 :: c273 :: c274 :: c275 :: c276 :: c277 :: c278 :: c279 :: c280 :: c281 :: c282 :: c283 :: c284 :: []), []⟩ w := by
  obtain ⟨i3, k0, k1, k2, k3⟩ := info_parts info_w32
  unfold body_sched
  conv => arg 2; arg 1; whnf
  go_loopw [7, 9] (fun v i wx => SchedRel ws wb v i wx) (fun _ i _ => 64 - (intOf i).toNat)
  case atStart => exact h0.out
  case round =>
    obtain ⟨k, g2, cp, rfl, hk1, hk2, rfl, own2, bl3, hg1, hg2⟩ := hrel
    unfold maxLen at hg2
    by_cases hlt3 : k < 64
    · have hl3 : (schedN (k - 16) ws).length = k := by rw [schedN_length, HWS.out.1]; omega
      have hlt32 := schedN_lt HWS.out.2 (k - 16)
      obtain ⟨ds, hds⟩ : ∃ ds, ds = schedN (k - 16) ws := ⟨_, rfl⟩
      rw [← hds] at hl3 hlt32 own2
      have HN : Hid (schedN (k + 1 - 16) ws = schedStep ds) := by
        show schedN (k + 1 - 16) ws = schedStep ds
        rw [show k + 1 - 16 = (k - 16) + 1 by omega, schedN, hds]
      obtain ⟨a15, c15, b15, e15⟩ := word_at (j := k - 15) hlt32 own2 hl3 (by omega)
      obtain ⟨a2, c2, b2, e2⟩ := word_at (j := k - 2) hlt32 own2 hl3 (by omega)
      obtain ⟨a16, c16, b16, e16⟩ := word_at (j := k - 16) hlt32 own2 hl3 (by omega)
      obtain ⟨a7, c7, b7, e7⟩ := word_at (j := k - 7) hlt32 own2 hl3 (by omega)
      have HST : Hid (schedStep ds = ds ++ [(a16 + sg0 a15 + a7 + sg1 a2) % 4294967296]) := by
        show schedStep ds = _
        unfold schedStep
        rw [hl3, e15, e2, e16, e7]
      have i15 : ((k : Int) - 15).toNat = k - 15 := by omega
      have i2 : ((k : Int) - 2).toNat = k - 2 := by omega
      have i16 : ((k : Int) - 16).toNat = k - 16 := by omega
      have i7 : ((k : Int) - 7).toNat = k - 7 := by omega
      have h1 : (16 : Int) ≤ k := by omega
      have h2 : (k : Int) < 64 := by omega
      have HL3 := Lib.hid hl3
      have l16 : (k : Int) - 16 < k := by omega
      have n7 : (7 : Int) ≤ k := by omega
      have l7 : (k : Int) - 7 < k := by omega
      have q16 : Hid (k - 16 < k) := by show k - 16 < k; omega
      have q7 : Hid (k - 7 < k) := by show k - 7 < k; omega
      have qm : Hid (k + 1 ≤ maxLen) := by show k + 1 ≤ maxLen; unfold maxLen; omega
      have qb : Hid ((k + 1) * 4 ≤ 140737488355328) := by show (k + 1) * 4 ≤ 140737488355328; omega
      have T7 := Lib.hid fun w => turn_q a15 7 7 rfl w (by omega) (by omega)
      have T18 := Lib.hid fun w => turn_q a15 18 18 rfl w (by omega) (by omega)
      have C3 := Lib.hid fun w => cut_q a15 3 3 rfl w (by omega) (by omega)
      have T17 := Lib.hid fun w => turn_q a2 17 17 rfl w (by omega) (by omega)
      have T19 := Lib.hid fun w => turn_q a2 19 19 rfl w (by omega) (by omega)
      have C10 := Lib.hid fun w => cut_q a2 10 10 rfl w (by omega) (by omega)
      clear hl3 hlt32 e15 e2 e16 e7 hds
      have w15 : IntKind.i64.wrap ((k : Int) - 15) = (k : Int) - 15 := IntWalk.i64_in _ (by omega)
      have w2 : IntKind.i64.wrap ((k : Int) - 2) = (k : Int) - 2 := IntWalk.i64_in _ (by omega)
      have E1 : bits .xor .u32 (bits .xor .u32 ((rotN 7 a15 : Nat) : Int) ((rotN 18 a15 : Nat) : Int)) ((cutN 3 a15 : Nat) : Int) = ((sg0 a15 : Nat) : Int) := sg0_bits (by omega)
      have w16 : IntKind.i64.wrap ((k : Int) - 16) = (k : Int) - 16 := IntWalk.i64_in _ (by omega)
      have w7 : IntKind.i64.wrap ((k : Int) - 7) = (k : Int) - 7 := IntWalk.i64_in _ (by clear w15 w2 w16; omega)
      have E2 : bits .xor .u32 (bits .xor .u32 ((rotN 17 a2 : Nat) : Int) ((rotN 19 a2 : Nat) : Int)) ((cutN 10 a2 : Nat) : Int) = ((sg1 a2 : Nat) : Int) := sg1_bits (by omega)
      go_wp2_with (fail)
      go_quiet (first
        | (go_at_call 49; with_reducible exact Calls.quiet_of_same (T7.out _))
        | (go_at_call 49; with_reducible exact Calls.quiet_of_same (T18.out _))
        | (with_reducible exact Calls.quiet_of_same (C3.out _)))
      obtain ⟨wa, hwa⟩ : ∃ W : World, W = wr.drewN nq := ⟨_, rfl⟩
      have c2a : wa.cell? ⟨g2, k - 2, none⟩ = some (.int .u32 (a2 : Int)) := hwa ▸ c2
      have c16a : wa.cell? ⟨g2, k - 16, none⟩ = some (.int .u32 (a16 : Int)) := hwa ▸ c16
      have c7a : wa.cell? ⟨g2, k - 7, none⟩ = some (.int .u32 (a7 : Int)) := hwa ▸ c7
      have owna : Hid (wa.ownsRow wb.heap.size 87 1 (Value.slice (some ⟨g2, 0, none⟩) k cp) k (List.map wv ds)) := Lib.hid (hwa ▸ own2)
      have bla := Lib.hid (show Below wb.heap.size wb wa from hwa ▸ below_drewN bl3 nq)
      rw [← hwa]
      clear hwa c2 c16 c7 c15 own2 bl3
      go_wp2_with (fail)
      go_quiet (first
        | (go_at_call 49; with_reducible exact Calls.quiet_of_same (T17.out _))
        | (go_at_call 49; with_reducible exact Calls.quiet_of_same (T19.out _))
        | (with_reducible exact Calls.quiet_of_same (C10.out _)))
      go_wp2_with (fail)
      obtain ⟨wc, hwc⟩ : ∃ W : World, W = wa.drewN nq := ⟨_, rfl⟩
      have c16c : wc.cell? ⟨g2, k - 16, none⟩ = some (.int .u32 (a16 : Int)) := hwc ▸ c16a
      have c7c : wc.cell? ⟨g2, k - 7, none⟩ = some (.int .u32 (a7 : Int)) := hwc ▸ c7a
      have ownc : Hid (wc.ownsRow wb.heap.size 87 1 (Value.slice (some ⟨g2, 0, none⟩) k cp) k (List.map wv ds)) := Lib.hid (hwc ▸ owna.out)
      have blc := Lib.hid (show Below wb.heap.size wb wc from hwc ▸ below_drewN bla.out nq)
      rw [← hwc]
      clear hwc c2a c16a c7a owna bla
      have hsz : wb.heap.size ≤ wc.heap.size := blc.out.size
      go_region_held3 (fun W => W.cell? ⟨g2, k - 16, none⟩ = some (.int .u32 (a16 : Int)) ∧ W.cell? ⟨g2, k - 7, none⟩ = some (.int .u32 (a7 : Int)))
        (first | go_keep | (exact ⟨(gr7.row _ _ rfl q16.out).trans c16c, (gr7.row _ _ rfl q7.out).trans c7c⟩))
        ((refine step_append_one_kept wc _ _ (by rfl) _ _ _ (by rfl) wb.heap.size 87 i3 _ 4 Tryd.underlying88 k0 k1 k2 k3 rfl rfl _ _ _ (by rfl) ownc.out (by rfl) qm.out qb.out hsz ?_; intro v7 wz own7 gr7))
      go_wp2_with (fail)
      clear w15 w2 w16 w7 i15 i2 i16 i7 E1 E2
      go_roundw
      case rel =>
        have e1 : List.map wv ds ++ [Value.int .u32 (IntKind.u32.wrap (IntKind.u32.wrap (IntKind.u32.wrap ((a16 : Int) + (sg0 a15 : Nat)) + (a7 : Int)) + (sg1 a2 : Nat)))] = (schedN (k + 1 - 16) ws).map wv := by
          rw [HN.out, HST.out, List.map_append, IntKind.wrap_u32', IntKind.wrap_u32', IntKind.wrap_u32']
          exact congrArg (fun z : Int => List.map wv ds ++ [Value.int .u32 z]) (by omega)
        rw [e1] at own7
        exact schedRel_mk (k := k + 1) (by omega) (by omega) own7 (blc.out.trans gr7.below)
      case measure => simp [intOf]; omega
    · obtain rfl : k = 64 := by omega
      have HO := Lib.hid own2
      have HB := Lib.hid bl3
      clear own2 bl3
      go_wp2_with (fail)
      exact HQ.out _ _ _ _ _ _ _ _ _ _ _ _ _ _ _ _ _ _ _ _ _ _ _ _ _ _ _ _ _ _ _ _ _ _ _ _ _ _ _ _ _ _ _ _ _ _ _ _ _ _ _ _ _ _ _ _ _ _ _ _ _ _ _ _ _ _ _ HO HB
end Go.Proofs.YtnaccngcpjkmbaaDoor
