/- The contract of the second reference's Sum: the published fingerprint of bytes. Conditions: at most 1000000 bytes. -/
import Derived.Test.YtpjidfcbckndfaaDoorRefLoopC
import Derived.Test.YtpjidfcbckndfaaDoorRefLoopE
import Derived.Test.YtpjidfcbckndfaaDoorRefLoopF
namespace Go.Proofs.YtpjidfcbckndfaaDoor
open Go.RowKit

/-- The value of a row of bytes that is an array. -/
def arrV (xs : List UInt8) : Value := .agg (xs.map bv).toArray
set_option maxRecDepth 100000 in
set_option maxHeartbeats 2000000 in
theorem refSum_any (v : Value) (xs : List UInt8) (w : World) (h : Rd w v xs) (hl : xs.length ≤ 1000000) :
    Calls Tryd.prog 19 #[v] w fun e w' => e = .returned (arrV (shaB xs)) ∧ Below w.heap.size w w' := by
  obtain ⟨i0, hi, hz0, hz1, hz2⟩ := info_parts info_u8
  obtain ⟨A, c, rfl, hc1, hc2, hA⟩ := h.form
  have HR := Lib.hid ((h.alloc (.cells (List.replicate 32 (Value.int .u8 0)).toArray 26)).alloc (.cells #[] 5))
  unfold maxLen at hc2
  have HL := Lib.hid hl
  have hlz : (xs.length : Int) ≤ 1000000 := by omega
  clear h hA hl
  go_enter Tryd.func19, Tryd.ntmps19
  go_wp2_with (at_builtin
               first
               | refine wpList_append_rd _ rfl _ _ _ rfl (w.heap.size + 1) 5 i0 _ Tryd.underlying22 hi hz0 hz1 hz2 rfl (.slice (some ⟨w.heap.size + 1, 0, none⟩) 0 0) 0 [] rfl (by simpa using World.ownsRow_lit (w.alloc _) #[] 0 (Nat.le_refl _) (by simp) rfl) _ xs rfl HR.out ?_ ?_ ?_
                 · omega
                 · simp
                 intro v1 w1 own1 g1
               | refine wpList_append_one _ _ _ rfl _ _ _ rfl (w.heap.size + 1) 5 i0 _ 1 Tryd.underlying22 hi hz0 hz1 hz2 rfl rfl v1 _ _ rfl own1 rfl ?_ ?_ ?_ ?_
                 · unfold maxLen; omega
                 · omega
                 · have := g1.size; simp at this; omega
                 intro v2 w2 own2 b2)
  have HO2 : Hid (PadRel w2 (w.heap.size + 1) xs v2 w2) := padRel_mk (j := 0) (by omega) (by simpa [bv, Nat.add_comm] using own2) (Below.refl _ _)
  have D1 : Below (w.heap.size + 1) (w.alloc (.cells (List.replicate 32 (.int .u8 0)).toArray 26)) w1 := ((Below.refl _ _).alloc (by simp) _).grown g1 (by simp) (by simp [Value.ownBlock])
  have D2 := Lib.hid (D1.trans b2)
  have sB : w.heap.size + 1 ≤ w2.heap.size := by have := D2.out.size; simp at this; omega
  clear own1 own2 g1 b2 HR D1
  go_wp2_with (fail)
  refine pad_loop _ _ _ _ _ _ _ _ _ _ _ _ _ _ _ _ _ _ _ _ _ _ _ _ _ _ _ _ _ _ _ _ _ _ _ _ _ _ _ _ _ _ _ _ _ _ _ _ _ _ _ _ _ _ _ _ _ _ _ _ _ _ _ _ _ _ _ _ _ _ _ _ _ _ _ _ _ _ _ _ _ _ _ _ _ _ _ _ _ _ _ _ _ _ _ _ _ _ _ _ _ _ _ _ _ _ _ _ _ _ _ _ _ _ _ _ _ _ _ _ _ _ _ _ _ _ _ _ _ _ _ _ _ _ _ _ _ _ _ _ _ _ _ _ _ _ _ _ _ _ _ _ _ _ _ _ _ _ _ _ _ _ _ _ _ _ _ _ _ _ _ _ _ _ _ _ _ _ _ _ _ _ _ _ _ _ _ _ _ _ _ _ _ _ _ _ _ _ _ _ _ _ _ _ _ _ _ _ _ _ _ _ _ _ _ _ _ _ _ _ _ _ _ _ _ _ _ _ _ _ _ _ _ _ _ _ _ _ _ _ _ _ _ _ _ _ _ _ _ _ _ _ _ _ _ _ _ _ _ _ _ _ _ _ _ _ _ _ _ _ _ _ _ _ _ _ _ _ _ _ _ _ _ _ xs (w.heap.size + 1) w2 v2 sB hlz HO2 (Lib.hid ?_)
  intro u32 u33 u34 u35 u36 u37 u38 v3 w3 own3 b3
  have HHI : Hid (∀ w, Calls Tryd.prog 23 #[.int .u64 ((xs.length : Int) * 8), .int .i64 8] w (Own w 5 (beB 8 (xs.length * 8)))) := by
    intro w
    have h := high_any (xs.length * 8) 8 w (by omega) (by omega)
    rw [show ((xs.length * 8 : Nat) : Int) = (xs.length : Int) * 8 by omega] at h
    exact h
  go_wp2_with (fail)
  refine (HHI.out _).mono ?_
  rintro e w4 ⟨v4, rfl, own4, hb4⟩
  have O4 := Lib.hid (own_lain own3.out hb4)
  have R4 := Lib.hid (Rd.of_own own4)
  have S4 : w.heap.size + 1 ≤ w4.heap.size := by have := b3.out.size; have := hb4.size; omega
  have D4 := Lib.hid ((D2.out.trans b3.out).trans (hb4.mono (Nat.le_trans sB b3.out.size)))
  have HLB : Hid ((beB 8 (xs.length * 8)).length = 8) := beB_length _ _
  have P64 : (padN xs.length : Int) ≤ 63 := by unfold padN; omega
  clear own3 own4 hb4 b3 D2
  go_wp2_with (at_builtin
               refine wpList_append_rd _ rfl _ _ _ rfl (w.heap.size + 1) 5 i0 _ Tryd.underlying22 hi hz0 hz1 hz2 rfl _ _ _ rfl O4.out v4 (beB 8 (xs.length * 8)) rfl R4.out ?_ ?_ ?_
               · have := HLB.out; omega
               · exact S4
               intro v5 w5 own5 g5)
  have hm5 : w5.ownsRow (w.heap.size + 1) 5 1 v5 (padB xs).length ((padB xs).map bv) := by
    have e1 : (xs ++ [128] ++ List.replicate (padN xs.length) 0).map bv ++ (beB 8 (xs.length * 8)).map bv = (padB xs).map bv := by
      rw [← List.map_append]
      rfl
    have e2 : xs.length + 1 + padN xs.length + (beB 8 (xs.length * 8)).length = (padB xs).length := by
      rw [padB_length, HLB.out]
      omega
    rw [e1, e2] at own5
    exact own5
  have D5 := Lib.hid (D4.out.grown g5 S4 (own_ge O4.out))
  have S5 : w.heap.size + 1 ≤ w5.heap.size := by have := g5.size; omega
  have ML : ((padB xs).length : Int) ≤ 1000100 := by
    rw [padB_length]
    omega
  have M64 := Lib.hid (padB_mod xs)
  have HS : Hid (shaB xs = (blocks (padB xs) ((padB xs).length / 64)).bytes) := rfl
  obtain ⟨m, hm⟩ : ∃ m, m = padB xs := ⟨_, rfl⟩
  obtain ⟨gm, cm, rfl, hcm1, hcm2⟩ := own_form hm5 (by rw [padB_length]; omega)
  have r5 := Rd.of_own hm5
  rw [← hm] at ML M64 HS r5 hcm1 ⊢
  have HR5 := Lib.hid (r5.alloc (.cells (h0T.map wv).toArray 49))
  have rh : Rw (w5.alloc (.cells (h0T.map wv).toArray 49)) (.slice (some ⟨w5.heap.size, 0, none⟩) 8 8) h0T := rw_lit (ds := h0T) (by simp [h0T])
  have HRH := Lib.hid rh
  have D6 := Lib.hid (D5.out.alloc S5 (.cells (h0T.map wv).toArray 49))
  unfold maxLen at hcm2
  clear own5 g5 hm5 r5 rh D4 O4 R4 HLB P64 hm HHI
  refine (constants_any _).mono ?_
  rintro e w6 ⟨v6, rfl, rk6, hb6⟩
  have HRM := Lib.hid (HR5.out.below hb6)
  have HRH6 := Lib.hid (HRH.out.below hb6)
  have HRK := Lib.hid rk6
  have S6 : w.heap.size + 1 ≤ w6.heap.size := by have := hb6.size; simp at this; omega
  have D7 := Lib.hid (D6.out.trans (hb6.mono (by simp; omega)))
  clear rk6 hb6
  go_wp2_with (fail)
  refine blks_loop _ _ _ _ _ _ _ _ _ _ _ _ _ _ _ _ _ _ _ _ _ _ _ _ _ _ _ _ _ _ _ _ _ _ _ _ _ _ _ _ _ _ _ _ _ _ _ _ _ _ _ _ _ _ _ _ _ _ _ _ _ _ _ _ _ _ _ _ _ _ _ _ _ _ _ _ _ _ _ _ _ _ _ _ _ _ _ _ _ _ _ _ _ _ _ _ _ _ _ _ _ _ _ _ _ _ _ _ _ _ _ _ _ _ _ _ _ _ _ _ _ _ _ _ _ _ _ _ _ _ _ _ _ _ _ _ _ _ _ _ _ _ _ _ _ _ _ _ _ _ _ _ _ _ _ _ _ _ _ _ _ _ _ _ _ _ _ _ _ _ _ _ _ _ _ _ _ _ _ _ _ _ _ _ _ _ _ _ _ _ _ _ _ _ _ _ _ _ _ _ _ _ _ _ _ _ _ _ _ _ _ _ _ _ _ _ _ _ _ _ _ _ _ _ _ _ _ _ _ _ _ _ _ _ _ _ _ _ _ _ _ _ _ _ _ _ _ _ _ _ _ _ _ _ _ _ _ _ _ _ _ _ _ _ _ _ _ _ _ _ _ _ _ _ _ _ _ _ _ _ _ m gm cm w6 _ v6 HRM HRK (Lib.hid HRH6.out) M64 ML hcm1 (by omega) (Lib.hid ?_)
  intro u6 u7 u8 u9 u10 u11 u12 u13 u14 u15 u16 u17 u18 u19 u20 u21 u22 u23 u48 u49 u50 u51 u52 u53 u54 u55 u56 u57 u58 u59 u60 u61 u62 u63 u64 u65 u66 u67 u68 u69 u70 u71 u72 u73 u74 u75 u76 u77 u78 u79 u80 u81 u82 u83 u84 u85 u86 u87 u88 u89 u90 u91 u92 u93 u94 u95 u96 u97 u98 u99 u100 u101 u102 u103 u104 u105 u106 u107 u108 u109 u110 u111 u112 u113 u114 u115 u116 u117 u118 u119 u120 u121 u122 u123 u124 u125 u126 u127 u128 u129 u130 u131 u132 u133 u134 u135 u136 u137 u138 u139 u140 u141 u142 u143 u144 u145 u146 u147 u148 u149 u150 u151 u152 u153 u154 u155 u156 u157 u158 u159 u160 u161 u162 u163 u164 u165 u166 u167 u168 u169 u170 u171 u172 u173 u174 u175 u176 u177 u178 u179 u180 u181 u182 u183 u184 u185 u186 u187 u188 u189 u190 u191 u192 u193 u194 u195 u196 u197 u198 u199 u200 u201 u202 u203 u204 u205 u206 u207 u208 u209 u210 u211 u212 u213 u214 u215 u216 u217 u218 u219 u220 u221 u222 u223 u224 u225 u226 u227 u228 u229 u230 u231 u232 u233 u234 u235 u236 u237 u238 u239 u240 u241 u242 u243 u244 u245 u246 u247 u248 u249 u250 u251 u252 u253 u254 u255 u256 u257 u258 u259 u260 u261 u262 u263 u264 u265 u266 v7 w7 r7 b7
  have hok := blocks_ok m (m.length / 64)
  obtain ⟨gh, ch, hv, a1, a2, a3, a4⟩ := r7.out
  have hv' : v7 = .slice (some ⟨gh, 0, none⟩) 8 ch := hv
  subst hv'
  obtain ⟨s, hs⟩ : ∃ s, s = blocks m (m.length / 64) := ⟨_, rfl⟩
  rw [← hs] at hok a4 HS
  have HA4 : Hid (∀ i (h : i < s.list.length), (w7.alloc (.cells (List.replicate 32 (Value.int .u8 0)).toArray 26)).cell? ⟨gh, i, none⟩ = some (.int .u32 ((s.list[i] : Nat) : Int))) := fun i h => (World.cell?_alloc_lt w7 _ _ a3).trans (a4 i h)
  have HB0 : Hid (Blk (w7.alloc (.cells (List.replicate 32 (Value.int .u8 0)).toArray 26)) w7.heap.size 26 (outC s.bytes 0)) := by
    have h := Blk.made w7 26 (List.replicate 32 (Value.int .u8 0))
    have e : outC s.bytes 0 = List.replicate 32 (Value.int .u8 0) := by simp [outC]
    show Blk _ _ _ _
    rw [e]
    exact h
  have D8 := Lib.hid ((D7.out.trans (b7.out.mono S6)).alloc (by have := b7.out.size; omega) (.cells (List.replicate 32 (Value.int .u8 0)).toArray 26))
  have S7 : w.heap.size + 1 ≤ w7.heap.size := by have := b7.out.size; omega
  clear hv a1 a2 a4 hs D7 HRH6 HRM HRK
  go_wp2_with (fail)
  refine outs_loop _ _ _ _ _ _ _ _ _ _ _ _ _ _ _ _ _ _ _ _ _ _ _ _ _ _ _ _ _ _ _ _ _ _ _ _ _ _ _ _ _ _ _ _ _ _ _ _ _ _ _ _ _ _ _ _ _ _ _ _ _ _ _ _ _ _ _ _ _ _ _ _ _ _ _ _ _ _ _ _ _ _ _ _ _ _ _ _ _ _ _ _ _ _ _ _ _ _ _ _ _ _ _ _ _ _ _ _ _ _ _ _ _ _ _ _ _ _ _ _ _ _ _ _ _ _ _ _ _ _ _ _ _ _ _ _ _ _ _ _ _ _ _ _ _ _ _ _ _ _ _ _ _ _ _ _ _ _ _ _ _ _ _ _ _ _ _ _ _ _ _ _ _ _ _ _ _ _ _ _ _ _ _ _ _ _ _ _ _ _ _ _ _ _ _ _ _ _ _ _ _ _ _ _ _ _ _ _ _ _ _ _ _ _ _ _ _ _ _ _ _ _ _ _ _ _ _ _ _ _ _ _ _ _ _ _ _ _ _ _ _ _ _ _ _ _ _ _ _ _ _ _ _ _ _ _ _ _ _ _ _ _ _ _ _ _ _ _ _ _ _ _ _ _ _ _ _ _ _ _ _ _ s (Lib.hid hok) _ w7.heap.size gh ch HA4 a3 HB0 (Lib.hid ?_)
  intro u25 u267 u268 u269 u270 u271 u272 u273 u274 u275 u276 u277 u278 u279 u280 u281 u282 u283 w8 hb8 hl8
  have hb := hb8.out
  have eC : outC s.bytes 32 = s.bytes.map bv := by unfold outC; rw [List.take_of_length_le (by rw [St.bytes_length]; omega)]; simp
  rw [eC] at hb
  have HB8 := Lib.hid hb
  have D9 := Lib.hid (D8.out.trans (hl8.out.mono S7))
  have HR9 : Hid (Blk w8 w.heap.size 26 (List.replicate 32 (Value.int .u8 0))) := (Blk.made w _ _).below D9.out (by omega)
  have HLN : Hid ((s.bytes.map bv).length = 32) := by show (s.bytes.map bv).length = 32; rw [List.length_map, St.bytes_length]
  have HI : Hid ((Tryd.prog.info? 26).map (·.size) = some 32) := by show _ = _; kernel_rfl
  clear hb eC hok
  go_wp2_with (first
    | (refine wpList_load_blk rfl 26 _ rfl w7.heap.size rfl 26 (s.bytes.map bv) _ HB8.out Tryd.underlying26 rfl (by rw [HLN.out]; exact HI.out) ?_)
    | (refine wpList_store_blk rfl 26 _ _ rfl w.heap.size 26 _ HR9.out (s.bytes.map bv) rfl rfl (by rw [HLN.out]; rfl) (by rw [HLN.out]; exact HI.out) (bv_one _) ?_; intro w9 hb9 hs9))
  refine bodyPost_ret (v := arrV (shaB xs)) ?_ rfl ⟨rfl, ?_⟩
  · rw [HS.out]
    exact results_blk (ty := 26) Tryd.results19 _ w9 w.heap.size 26 (s.bytes.map bv) _ rfl hb9 Tryd.underlying26 rfl (by rw [HLN.out]; exact HI.out)
  · exact (((Below.refl _ _).alloc (Nat.le_refl _) _).trans (D9.out.mono (by omega))).trans hs9.below
end Go.Proofs.YtpjidfcbckndfaaDoor
