/- Part 30 of the words that the laws share: RefSum, SumOut, End, ShaFlow. No condition of its own: each theorem says its own. -/
import Derived.Test.YtnaccngcpjkmbaaDoorPart4
import Derived.Test.YtnaccngcpjkmbaaDoorPart26
import Derived.Test.YtnaccngcpjkmbaaDoorPart29
import Derived.Test.YtnaccngcpjkmbaaDoorPart28

/- The contract of the second reference's Sum: the published fingerprint of bytes. Conditions: at most 1000000 bytes. -/
namespace Go.Proofs.YtnaccngcpjkmbaaDoor
open Go.RowKit

set_option maxRecDepth 100000 in
set_option maxHeartbeats 2000000 in
theorem refSum_any (v : Value) (xs : List UInt8) (w : World) (h : Rd w v xs) (hl : xs.length ≤ 1000000) :
    Calls Tryd.prog 27 #[v] w fun e w' => e = .returned (arrV (shaB xs)) ∧ Below w.heap.size w w' := by
  obtain ⟨i0, hi, hz0, hz1, hz2⟩ := info_parts info_u8
  obtain ⟨A, c, rfl, hc1, hc2, hA⟩ := h.form
  have HR := Lib.hid ((h.alloc (.cells (List.replicate 32 (Value.int .u8 0)).toArray 66)).alloc (.cells #[] 5))
  unfold maxLen at hc2
  have HL := Lib.hid hl
  have hlz : (xs.length : Int) ≤ 1000000 := by omega
  clear h hA hl
  go_enter Tryd.func27, Tryd.ntmps27
  go_wp2_with (at_builtin
               first
               | refine wpList_append_rd _ rfl _ _ _ rfl (w.heap.size + 1) 5 i0 _ Tryd.underlying23 hi hz0 hz1 hz2 rfl (.slice (some ⟨w.heap.size + 1, 0, none⟩) 0 0) 0 [] rfl (by simpa using World.ownsRow_lit (w.alloc _) #[] 0 (Nat.le_refl _) (by simp) rfl) _ xs rfl HR.out ?_ ?_ ?_
                 · omega
                 · simp
                 intro v1 w1 own1 g1
               | refine wpList_append_one _ _ _ rfl _ _ _ rfl (w.heap.size + 1) 5 i0 _ 1 Tryd.underlying23 hi hz0 hz1 hz2 rfl rfl v1 _ _ rfl own1 rfl ?_ ?_ ?_ ?_
                 · unfold maxLen; omega
                 · omega
                 · have := g1.size; simp at this; omega
                 intro v2 w2 own2 b2)
  have HO2 : Hid (PadRel w2 (w.heap.size + 1) xs v2 w2) := padRel_mk (j := 0) (by omega) (by simpa [bv, Nat.add_comm] using own2) (Below.refl _ _)
  have D1 : Below (w.heap.size + 1) (w.alloc (.cells (List.replicate 32 (.int .u8 0)).toArray 66)) w1 := ((Below.refl _ _).alloc (by simp) _).grown g1 (by simp) (by simp [Value.ownBlock])
  have D2 := Lib.hid (D1.trans b2)
  have sB : w.heap.size + 1 ≤ w2.heap.size := by have := D2.out.size; simp at this; omega
  clear own1 own2 g1 b2 HR D1
  go_wp2_with (fail)
  refine pad_loop _ _ _ _ _ _ _ _ _ _ _ _ _ _ _ _ _ _ _ _ _ _ _ _ _ _ _ _ _ _ _ _ _ _ _ _ _ _ _ _ _ _ _ _ _ _ _ _ _ _ _ _ _ _ _ _ _ _ _ _ _ _ _ _ _ _ _ _ _ _ _ _ _ _ _ _ _ _ _ _ _ _ _ _ _ _ _ _ _ _ _ _ _ _ _ _ _ _ _ _ _ _ _ _ _ _ _ _ _ _ _ _ _ _ _ _ _ _ _ _ _ _ _ _ _ _ _ _ _ _ _ _ _ _ _ _ _ _ _ _ _ _ _ _ _ _ _ _ _ _ _ _ _ _ _ _ _ _ _ _ _ _ _ _ _ _ _ _ _ _ _ _ _ _ _ _ _ _ _ _ _ _ _ _ _ _ _ _ _ _ _ _ _ _ _ _ _ _ _ _ _ _ _ _ _ _ _ _ _ _ _ _ _ _ _ _ _ _ _ _ _ _ _ _ _ _ _ _ _ _ _ _ _ _ _ _ _ _ _ _ _ _ _ _ _ _ _ _ _ _ _ _ _ _ _ _ _ _ _ _ _ _ _ _ _ _ _ _ _ _ _ _ _ _ _ _ _ _ _ _ _ _ _ _ xs (w.heap.size + 1) w2 v2 sB hlz HO2 (Lib.hid ?_)
  intro u32 u33 u34 u35 u36 u37 u38 v3 w3 own3 b3
  have HHI : Hid (∀ w, Calls Tryd.prog 46 #[.int .u64 ((xs.length : Int) * 8), .int .i64 8] w (Own w 5 (beB 8 (xs.length * 8)))) := by
    intro w
    have h := high_any (xs.length * 8) 8 w (by omega) (by omega)
    rw [show ((xs.length * 8 : Nat) : Int) = (xs.length : Int) * 8 by omega] at h
    exact h
  go_wp2_with (fail)
  refine (HHI.out _).mono ?_
  rintro e w4 ⟨v4, rfl, own4, hb4⟩
  have O4 := Lib.hid (own_lain own3.out hb4)
  have R4 := Lib.hid (Rd.of_own own4)
  have S4 : w.heap.size + 1 ≤ w4.heap.size := by have := b3.out.size; have := hb4.size; omega
  have D4 := Lib.hid ((D2.out.trans b3.out).trans (hb4.mono (Nat.le_trans sB b3.out.size)))
  have HLB : Hid ((beB 8 (xs.length * 8)).length = 8) := beB_length _ _
  have P64 : (padN xs.length : Int) ≤ 63 := by unfold padN; omega
  clear own3 own4 hb4 b3 D2
  go_wp2_with (at_builtin
               refine wpList_append_rd _ rfl _ _ _ rfl (w.heap.size + 1) 5 i0 _ Tryd.underlying23 hi hz0 hz1 hz2 rfl _ _ _ rfl O4.out v4 (beB 8 (xs.length * 8)) rfl R4.out ?_ ?_ ?_
               · have := HLB.out; omega
               · exact S4
               intro v5 w5 own5 g5)
  have hm5 : w5.ownsRow (w.heap.size + 1) 5 1 v5 (padB xs).length ((padB xs).map bv) := by
    have e1 : (xs ++ [128] ++ List.replicate (padN xs.length) 0).map bv ++ (beB 8 (xs.length * 8)).map bv = (padB xs).map bv := by
      rw [← List.map_append]
      rfl
    have e2 : xs.length + 1 + padN xs.length + (beB 8 (xs.length * 8)).length = (padB xs).length := by
      rw [padB_length, HLB.out]
      omega
    rw [e1, e2] at own5
    exact own5
  have D5 := Lib.hid (D4.out.grown g5 S4 (own_ge O4.out))
  have S5 : w.heap.size + 1 ≤ w5.heap.size := by have := g5.size; omega
  have ML : ((padB xs).length : Int) ≤ 1000100 := by
    rw [padB_length]
    omega
  have M64 := Lib.hid (padB_mod xs)
  have HS : Hid (shaB xs = (blocks (padB xs) ((padB xs).length / 64)).bytes) := rfl
  obtain ⟨m, hm⟩ : ∃ m, m = padB xs := ⟨_, rfl⟩
  obtain ⟨gm, cm, rfl, hcm1, hcm2⟩ := own_form hm5 (by rw [padB_length]; omega)
  have r5 := Rd.of_own hm5
  rw [← hm] at ML M64 HS r5 hcm1 ⊢
  have HR5 := Lib.hid (r5.alloc (.cells (h0T.map wv).toArray 87))
  have rh : Rw (w5.alloc (.cells (h0T.map wv).toArray 87)) (.slice (some ⟨w5.heap.size, 0, none⟩) 8 8) h0T := rw_lit (ds := h0T) (by simp [h0T])
  have HRH := Lib.hid rh
  have D6 := Lib.hid (D5.out.alloc S5 (.cells (h0T.map wv).toArray 87))
  unfold maxLen at hcm2
  clear own5 g5 hm5 r5 rh D4 O4 R4 HLB P64 hm HHI
  refine (constants_any _).mono ?_
  rintro e w6 ⟨v6, rfl, rk6, hb6⟩
  have HRM := Lib.hid (HR5.out.below hb6)
  have HRH6 := Lib.hid (HRH.out.below hb6)
  have HRK := Lib.hid rk6
  have S6 : w.heap.size + 1 ≤ w6.heap.size := by have := hb6.size; simp at this; omega
  have D7 := Lib.hid (D6.out.trans (hb6.mono (by simp; omega)))
  clear rk6 hb6
  go_wp2_with (fail)
  refine blks_loop _ _ _ _ _ _ _ _ _ _ _ _ _ _ _ _ _ _ _ _ _ _ _ _ _ _ _ _ _ _ _ _ _ _ _ _ _ _ _ _ _ _ _ _ _ _ _ _ _ _ _ _ _ _ _ _ _ _ _ _ _ _ _ _ _ _ _ _ _ _ _ _ _ _ _ _ _ _ _ _ _ _ _ _ _ _ _ _ _ _ _ _ _ _ _ _ _ _ _ _ _ _ _ _ _ _ _ _ _ _ _ _ _ _ _ _ _ _ _ _ _ _ _ _ _ _ _ _ _ _ _ _ _ _ _ _ _ _ _ _ _ _ _ _ _ _ _ _ _ _ _ _ _ _ _ _ _ _ _ _ _ _ _ _ _ _ _ _ _ _ _ _ _ _ _ _ _ _ _ _ _ _ _ _ _ _ _ _ _ _ _ _ _ _ _ _ _ _ _ _ _ _ _ _ _ _ _ _ _ _ _ _ _ _ _ _ _ _ _ _ _ _ _ _ _ _ _ _ _ _ _ _ _ _ _ _ _ _ _ _ _ _ _ _ _ _ _ _ _ _ _ _ _ _ _ _ _ _ _ _ _ _ _ _ _ _ _ _ _ _ _ _ _ _ _ _ _ _ _ _ _ m gm cm w6 _ v6 HRM HRK (Lib.hid HRH6.out) M64 ML hcm1 (by omega) (Lib.hid ?_)
  intro u6 u7 u8 u9 u10 u11 u12 u13 u14 u15 u16 u17 u18 u19 u20 u21 u22 u23 u48 u49 u50 u51 u52 u53 u54 u55 u56 u57 u58 u59 u60 u61 u62 u63 u64 u65 u66 u67 u68 u69 u70 u71 u72 u73 u74 u75 u76 u77 u78 u79 u80 u81 u82 u83 u84 u85 u86 u87 u88 u89 u90 u91 u92 u93 u94 u95 u96 u97 u98 u99 u100 u101 u102 u103 u104 u105 u106 u107 u108 u109 u110 u111 u112 u113 u114 u115 u116 u117 u118 u119 u120 u121 u122 u123 u124 u125 u126 u127 u128 u129 u130 u131 u132 u133 u134 u135 u136 u137 u138 u139 u140 u141 u142 u143 u144 u145 u146 u147 u148 u149 u150 u151 u152 u153 u154 u155 u156 u157 u158 u159 u160 u161 u162 u163 u164 u165 u166 u167 u168 u169 u170 u171 u172 u173 u174 u175 u176 u177 u178 u179 u180 u181 u182 u183 u184 u185 u186 u187 u188 u189 u190 u191 u192 u193 u194 u195 u196 u197 u198 u199 u200 u201 u202 u203 u204 u205 u206 u207 u208 u209 u210 u211 u212 u213 u214 u215 u216 u217 u218 u219 u220 u221 u222 u223 u224 u225 u226 u227 u228 u229 u230 u231 u232 u233 u234 u235 u236 u237 u238 u239 u240 u241 u242 u243 u244 u245 u246 u247 u248 u249 u250 u251 u252 u253 u254 u255 u256 u257 u258 u259 u260 u261 u262 u263 u264 u265 u266 v7 w7 r7 b7
  have hok := blocks_ok m (m.length / 64)
  obtain ⟨gh, ch, hv, a1, a2, a3, a4⟩ := r7.out
  have hv' : v7 = .slice (some ⟨gh, 0, none⟩) 8 ch := hv
  subst hv'
  obtain ⟨s, hs⟩ : ∃ s, s = blocks m (m.length / 64) := ⟨_, rfl⟩
  rw [← hs] at hok a4 HS
  have HA4 : Hid (∀ i (h : i < s.list.length), (w7.alloc (.cells (List.replicate 32 (Value.int .u8 0)).toArray 66)).cell? ⟨gh, i, none⟩ = some (.int .u32 ((s.list[i] : Nat) : Int))) := fun i h => (World.cell?_alloc_lt w7 _ _ a3).trans (a4 i h)
  have HB0 : Hid (Blk (w7.alloc (.cells (List.replicate 32 (Value.int .u8 0)).toArray 66)) w7.heap.size 66 (outC s.bytes 0)) := by
    have h := Blk.made w7 66 (List.replicate 32 (Value.int .u8 0))
    have e : outC s.bytes 0 = List.replicate 32 (Value.int .u8 0) := by simp [outC]
    show Blk _ _ _ _
    rw [e]
    exact h
  have D8 := Lib.hid ((D7.out.trans (b7.out.mono S6)).alloc (by have := b7.out.size; omega) (.cells (List.replicate 32 (Value.int .u8 0)).toArray 66))
  have S7 : w.heap.size + 1 ≤ w7.heap.size := by have := b7.out.size; omega
  clear hv a1 a2 a4 hs D7 HRH6 HRM HRK
  go_wp2_with (fail)
  refine outs_loop _ _ _ _ _ _ _ _ _ _ _ _ _ _ _ _ _ _ _ _ _ _ _ _ _ _ _ _ _ _ _ _ _ _ _ _ _ _ _ _ _ _ _ _ _ _ _ _ _ _ _ _ _ _ _ _ _ _ _ _ _ _ _ _ _ _ _ _ _ _ _ _ _ _ _ _ _ _ _ _ _ _ _ _ _ _ _ _ _ _ _ _ _ _ _ _ _ _ _ _ _ _ _ _ _ _ _ _ _ _ _ _ _ _ _ _ _ _ _ _ _ _ _ _ _ _ _ _ _ _ _ _ _ _ _ _ _ _ _ _ _ _ _ _ _ _ _ _ _ _ _ _ _ _ _ _ _ _ _ _ _ _ _ _ _ _ _ _ _ _ _ _ _ _ _ _ _ _ _ _ _ _ _ _ _ _ _ _ _ _ _ _ _ _ _ _ _ _ _ _ _ _ _ _ _ _ _ _ _ _ _ _ _ _ _ _ _ _ _ _ _ _ _ _ _ _ _ _ _ _ _ _ _ _ _ _ _ _ _ _ _ _ _ _ _ _ _ _ _ _ _ _ _ _ _ _ _ _ _ _ _ _ _ _ _ _ _ _ _ _ _ _ _ _ _ _ _ _ _ _ _ _ s (Lib.hid hok) _ w7.heap.size gh ch HA4 a3 HB0 (Lib.hid ?_)
  intro u25 u267 u268 u269 u270 u271 u272 u273 u274 u275 u276 u277 u278 u279 u280 u281 u282 u283 w8 hb8 hl8
  have hb := hb8.out
  have eC : outC s.bytes 32 = s.bytes.map bv := by unfold outC; rw [List.take_of_length_le (by rw [St.bytes_length]; omega)]; simp
  rw [eC] at hb
  have HB8 := Lib.hid hb
  have D9 := Lib.hid (D8.out.trans (hl8.out.mono S7))
  have HR9 : Hid (Blk w8 w.heap.size 66 (List.replicate 32 (Value.int .u8 0))) := (Blk.made w _ _).below D9.out (by omega)
  have HLN : Hid ((s.bytes.map bv).length = 32) := by show (s.bytes.map bv).length = 32; rw [List.length_map, St.bytes_length]
  have HI : Hid ((Tryd.prog.info? 66).map (·.size) = some 32) := by show _ = _; kernel_rfl
  clear hb eC hok
  go_wp2_with (first
    | (refine wpList_load_blk rfl 66 _ rfl w7.heap.size rfl 66 (s.bytes.map bv) _ HB8.out Tryd.underlying66 rfl (by rw [HLN.out]; exact HI.out) ?_)
    | (refine wpList_store_blk rfl 66 _ _ rfl w.heap.size 66 _ HR9.out (s.bytes.map bv) rfl rfl (by rw [HLN.out]; rfl) (by rw [HLN.out]; exact HI.out) (bv_one _) ?_; intro w9 hb9 hs9))
  refine bodyPost_ret (v := arrV (shaB xs)) ?_ rfl ⟨rfl, ?_⟩
  · rw [HS.out]
    exact results_blk (ty := 66) Tryd.results27 _ w9 w.heap.size 66 (s.bytes.map bv) _ rfl hb9 Tryd.underlying66 rfl (by rw [HLN.out]; exact HI.out)
  · exact (((Below.refl _ _).alloc (Nat.le_refl _) _).trans (D9.out.mono (by omega))).trans hs9.below
end Go.Proofs.YtnaccngcpjkmbaaDoor

/- The contract of sha's sum: the words as bytes. Conditions: words that fit uint32. -/
namespace Go.Proofs.YtnaccngcpjkmbaaDoor
open Go.RowKit

def SoutRel (s : St) (w : World) (S : Nat) (v : Value) (wr : World) : Prop :=
  ∃ i : Nat, v = .int .i64 (i : Int) ∧ i ≤ 8 ∧ Blk wr S 66 (outC s.bytes (4 * i)) ∧ Below S w wr
set_option maxRecDepth 100000 in
theorem index_words (s : St) (i : Nat) (hi : i < 8) (W : World) : (Instr.index 102 (stV s) (.int .i64 (i : Int))).run Tryd.prog W = .ok (.int .u32 ((s.list.getD i 0 : Nat) : Int)) W := by
  have h : i = 0 ∨ i = 1 ∨ i = 2 ∨ i = 3 ∨ i = 4 ∨ i = 5 ∨ i = 6 ∨ i = 7 := by omega
  rcases h with rfl | rfl | rfl | rfl | rfl | rfl | rfl | rfl <;> rfl
noncomputable def body_sout : Code := (((Tryd.f60.body.map loopsOf).getD [])[0]?).getD .skip
set_option maxRecDepth 100000 in
set_option maxHeartbeats 1000000 in
theorem sout_loop (c0 c1 c2 c4 c5 c6 c9 c10 c11 c12 c13 c14 c15 c16 c17 c18 c19 c20 c21 c22 c23 c24 c25 c26 c27 c28 : Value) (s : St) (hs : Hid s.ok) (w : World) (S : Nat) (h0 : Hid (Blk w S 66 (outC s.bytes 0))) {Q : Exit → Act → World → Prop}
    (HQ : Hid (∀ (u4 u5 u6 u9 u10 u11 u12 u13 u14 u15 u16 u17 u18 u19 u20 u21 u22 u23 u24 u25 u26 u27 : Value) (wx : World), Hid (Blk wx S 66 (outC s.bytes 32)) → Hid (Below S w wx) → Q (.exit 0) ⟨List.toArray (c0 :: c1 :: c2 :: (.pointer (some ⟨S, 0, none⟩)) :: u4 :: u5 :: u6 :: (stV s) :: (.int .i64 8) :: u9 :: u10 :: u11 :: u12 :: u13 :: u14 :: u15 :: u16 :: u17 :: u18 :: u19 :: u20 :: u21 :: u22 :: u23 :: u24 :: u25 :: u26 :: u27 :: c28 :: []), []⟩ wx)) :
    (Code.loop body_sout).wp Tryd.prog Q ⟨List.toArray (c0 :: c1 :: c2 :: (.pointer (some ⟨S, 0, none⟩)) :: c4 :: c5 :: c6 :: (stV s) :: (.int .i64 0) :: c9 :: c10 :: c11 :: c12 :: c13 :: c14 :: c15 :: c16 :: c17 :: c18 :: c19 :: c20 :: c21 :: c22 :: c23 :: c24 :: c25 :: c26 :: c27 :: c28 :: []), []⟩ w := by
  unfold body_sout
  conv => arg 2; arg 1; whnf
  go_loopw [8] (fun v wx => SoutRel s w S v wx) (fun v _ => 8 - (intOf v).toNat)
  case atStart => exact ⟨0, rfl, by omega, h0.out, Below.refl _ _⟩
  case round =>
    obtain ⟨i, rfl, hi, hblk, bl⟩ := hrel
    by_cases hlt : i < 8
    · have hI : (i : Int) < 8 := by omega
      have HX := fun W => index_words s i hlt W
      have HB := Lib.hid hblk
      have HL := Lib.hid bl
      clear hblk bl
      go_wp2_with (fail)
      refine sin_loop _ _ _ _ _ _ _ _ _ _ _ _ _ _ _ _ _ _ _ _ _ _ _ _ _ s hs i hlt wr S HB (Lib.hid ?_)
      intro u6 u13 u14 u15 u16 u17 u18 u19 u20 u21 u22 u23 u24 u25 u26 w1 hb1 hl1
      go_wp2_with (fail)
      go_roundw
      case rel => exact ⟨i + 1, by go_num, by omega, by rw [show 4 * (i + 1) = 4 * i + 4 by omega]; exact hb1.out, HL.out.trans hl1.out⟩
      case measure => simp [intOf]; omega
    · obtain rfl : i = 8 := by omega
      have HB := Lib.hid hblk
      have HL := Lib.hid bl
      clear hblk bl
      go_wp2_with (fail)
      exact HQ.out _ _ _ _ _ _ _ _ _ _ _ _ _ _ _ _ _ _ _ _ _ _ _ HB HL

set_option maxRecDepth 100000 in
set_option maxHeartbeats 1000000 in
theorem sumOut_any (s : St) (w : World) (hs : s.ok) :
    Calls Tryd.prog 60 #[stV s] w fun e w' => e = .returned (arrV s.bytes) ∧ Below w.heap.size w w' := by
  have HS := Lib.hid hs
  have HI : Hid ((Tryd.prog.info? 66).map (·.size) = some 32) := by show _ = _; kernel_rfl
  have HLN : Hid ((s.bytes.map bv).length = 32) := by show (s.bytes.map bv).length = 32; rw [List.length_map, St.bytes_length]
  clear hs
  obtain ⟨s, hst⟩ : ∃ t, t = s := ⟨_, rfl⟩
  subst hst
  obtain ⟨sa, sb, sc, sd, se, sf, sg, sh⟩ := s
  unfold stV wordsV
  change Calls _ _ #[.agg #[.int .u32 (sa : Int), .int .u32 (sb : Int), .int .u32 (sc : Int), .int .u32 (sd : Int), .int .u32 (se : Int), .int .u32 (sf : Int), .int .u32 (sg : Int), .int .u32 (sh : Int)]] _ _
  go_enter Tryd.func60, Tryd.ntmps60
  go_wp2_with (fail)
  refine sout_loop _ _ _ _ _ _ _ _ _ _ _ _ _ _ _ _ _ _ _ _ _ _ _ _ _ _ ⟨sa, sb, sc, sd, se, sf, sg, sh⟩ HS _ (w.heap.size + 1 + 1) ?_ (Lib.hid ?_)
  · have h := Blk.made ((w.alloc (.cells #[.int .u32 (sa : Int), .int .u32 (sb : Int), .int .u32 (sc : Int), .int .u32 (sd : Int), .int .u32 (se : Int), .int .u32 (sf : Int), .int .u32 (sg : Int), .int .u32 (sh : Int)] 102)).alloc (.cells (List.replicate 32 (Value.int .u8 0)).toArray 66)) 66 (List.replicate 32 (Value.int .u8 0))
    simp only [World.size_alloc] at h
    exact Lib.hid h
  intro u4 u5 u6 u9 u10 u11 u12 u13 u14 u15 u16 u17 u18 u19 u20 u21 u22 u23 u24 u25 u26 u27 w1 hb1 hl1
  have hb := hb1.out
  have eC : outC (St.bytes ⟨sa, sb, sc, sd, se, sf, sg, sh⟩) 32 = (St.bytes ⟨sa, sb, sc, sd, se, sf, sg, sh⟩).map bv := by unfold outC; rw [List.take_of_length_le (by rw [St.bytes_length]; omega)]; simp
  rw [eC] at hb
  have HB8 := Lib.hid hb
  have HR9 : Hid (Blk w1 (w.heap.size + 1) 66 (List.replicate 32 (Value.int .u8 0))) := by
    have h := (Blk.made (w.alloc (.cells #[.int .u32 (sa : Int), .int .u32 (sb : Int), .int .u32 (sc : Int), .int .u32 (sd : Int), .int .u32 (se : Int), .int .u32 (sf : Int), .int .u32 (sg : Int), .int .u32 (sh : Int)] 102)) 66 (List.replicate 32 (Value.int .u8 0))).alloc (.cells (List.replicate 32 (Value.int .u8 0)).toArray 66)
    simp only [World.size_alloc] at h
    exact h.below hl1.out (by omega)
  have HL1 := Lib.hid hl1.out
  clear hb eC hb1 hl1
  go_wp2_with (first
    | (refine wpList_load_blk rfl 66 _ rfl (w.heap.size + 1 + 1) rfl 66 _ _ HB8.out Tryd.underlying66 rfl (by rw [HLN.out]; exact HI.out) ?_)
    | (refine wpList_store_blk rfl 66 _ _ rfl (w.heap.size + 1) 66 _ HR9.out ((St.bytes ⟨sa, sb, sc, sd, se, sf, sg, sh⟩).map bv) rfl rfl (by rw [HLN.out]; rfl) (by rw [HLN.out]; exact HI.out) (bv_one _) ?_; intro w9 hb9 hs9))
  refine bodyPost_ret (v := arrV (St.bytes ⟨sa, sb, sc, sd, se, sf, sg, sh⟩)) ?_ rfl ⟨rfl, ?_⟩
  · exact results_blk (ty := 66) Tryd.results60 _ w9 (w.heap.size + 1) 66 ((St.bytes ⟨sa, sb, sc, sd, se, sf, sg, sh⟩).map bv) _ rfl hb9 Tryd.underlying66 rfl (by rw [HLN.out]; exact HI.out)
  · exact ((((Below.refl _ _).alloc (Nat.le_refl _) _).alloc (by simp) _).alloc (by simp; omega) _).trans ((HL1.out.mono (by omega)).trans (hs9.below.mono (by omega)))
end Go.Proofs.YtnaccngcpjkmbaaDoor

/- The contract of sha's end: the words behind the last block. Conditions: a block of 64 bytes, filled to less than all; at most 1000000 bytes; words that fit uint32; the table of the rounds as it is laid. -/
namespace Go.Proofs.YtnaccngcpjkmbaaDoor
open Go.RowKit

/-- The block with a byte 80 behind what fills it, and noughts. -/
def markC (cs : List UInt8) (f : Nat) : List UInt8 := cs.take f ++ [128] ++ List.replicate (63 - f) 0
theorem markC_length {cs : List UInt8} (h : cs.length = 64) {f : Nat} (hf : f < 64) : (markC cs f).length = 64 := by simp [markC]; omega
/-- The words behind the last block. -/
def endS (s : St) (cs : List UInt8) (f n : Nat) : St :=
  if 56 ≤ f then goOn (goOn s (markC cs f)) (endC (List.replicate 64 0) (n * 8) 8) else goOn s (endC (markC cs f) (n * 8) 8)
theorem mark_clear {cs : List UInt8} (h : cs.length = 64) {f : Nat} (hf : f < 64) : clearL ((cs.map bv).set f (.int .u8 128)) (f + 1) (64 - (f + 1)) (.int .u8 0) = (markC cs f).map bv := by
  unfold clearL markC
  rw [List.take_succ_eq_append_getElem (by simp; omega), List.take_set_of_le (Nat.le_refl f), List.drop_of_length_le (by simp; omega)]
  simp only [List.getElem_set_self, List.map_append, List.map_replicate, List.map_cons, List.map_nil, List.map_take, List.append_nil]
  rw [show 64 - (f + 1) = 63 - f by omega]
  rfl
theorem all_clear {cs : List Value} (h : cs.length = 64) : clearL cs 0 64 (.int .u8 0) = (List.replicate 64 (0 : UInt8)).map bv := by
  unfold clearL
  rw [List.drop_of_length_le (by omega)]
  simp [bv]
theorem goOn_ok (s : St) (bs : List UInt8) : (goOn s bs).ok := add_ok _ _
theorem list_len (s t : St) : (s.list.map wv).length = (t.list.map wv).length := rfl
theorem list_len8 (s : St) : (s.list.map wv).length = (List.replicate 8 (Value.int .u32 0)).length := rfl
/-- The three blocks of the call's own. -/
structure EndSt (w : World) (s : St) (cs : List UInt8) (W : World) : Prop where
  words : Blk W w.heap.size 102 (s.list.map wv)
  block : Blk W (w.heap.size + 1) 104 (cs.map bv)
  res : Blk W (w.heap.size + 2) 102 (List.replicate 8 (Value.int .u32 0))
  below : Below w.heap.size w W
theorem EndSt.on {w W W' : World} {s : St} {cs : List UInt8} (h : EndSt w s cs W) (hb : Below W.heap.size W W') : EndSt w s cs W' :=
  ⟨h.words.below hb h.words.lt, h.block.below hb h.block.lt, h.res.below hb h.res.lt, h.below.trans (hb.mono h.below.size)⟩
theorem EndSt.lay {w W W' : World} {s : St} {cs ds : List UInt8} (h : EndSt w s cs W) (hs : Sole W W' (w.heap.size + 1)) (hb : Blk W' (w.heap.size + 1) 104 (ds.map bv)) : EndSt w s ds W' :=
  ⟨hs.blk h.words (by omega), hb, hs.blk h.res (by omega), h.below.trans (hs.below.mono (by omega))⟩
theorem EndSt.put {w W W' : World} {s t : St} {cs : List UInt8} (h : EndSt w s cs W) (hs : Sole W W' w.heap.size) (hb : Blk W' w.heap.size 102 (t.list.map wv)) : EndSt w t cs W' :=
  ⟨hb, hs.blk h.block (by omega), hs.blk h.res (by omega), h.below.trans hs.below⟩
set_option maxRecDepth 100000 in
set_option maxHeartbeats 1000000 in
theorem end_any (s : St) (cs : List UInt8) (f n : Nat) (w : World) (hs : s.ok) (hl : cs.length = 64) (hf : f < 64) (hn : n ≤ 1000000) (hk : Salts w) :
    Calls Tryd.prog 59 #[stV s, arrV cs, .int .i64 (f : Int), .int .u64 (n : Int)] w fun e w' => e = .returned (stV (endS s cs f n)) ∧ Below w.heap.size w w' := by
  obtain ⟨i0, hi, hz0, hz1, hz2⟩ := info_parts info_u8
  have HNEQ : Hid (endS s cs f n = endS s cs f n) := rfl
  obtain ⟨res, hres⟩ : ∃ res, res = endS s cs f n := ⟨_, rfl⟩
  rw [← hres]
  have HRES := Lib.hid hres
  obtain ⟨sa, sb, sc, sd, se, sf, sg, sh⟩ := s
  have HOK := Lib.hid hs
  have HL := Lib.hid hl
  have HK := Lib.hid hk
  have HI8 : Hid ((Tryd.prog.info? 102).map (·.size) = some 8) := by show _ = _; kernel_rfl
  have HF : Hid (f < 64) := hf
  have fI : (f : Int) < 64 := by omega
  have nI : (n : Int) ≤ 1000000 := by omega
  have hzv : ∀ w : World, (zeroValue 5).run Tryd.prog w = .ok (.int .u8 0) w := fun w => by kernel_rfl
  have HZV := Lib.hid hzv
  have f0 := (Blk.made (w.alloc (.cells #[.int .u32 (sa : Int), .int .u32 (sb : Int), .int .u32 (sc : Int), .int .u32 (sd : Int), .int .u32 (se : Int), .int .u32 (sf : Int), .int .u32 (sg : Int), .int .u32 (sh : Int)] 102)) 104 (cs.map bv)).free f
  have c0 := (Blk.made (w.alloc (.cells #[.int .u32 (sa : Int), .int .u32 (sb : Int), .int .u32 (sc : Int), .int .u32 (sd : Int), .int .u32 (se : Int), .int .u32 (sf : Int), .int .u32 (sg : Int), .int .u32 (sh : Int)] 102)) 104 (cs.map bv)).cell f
  rw [List.getElem?_map, List.getElem?_eq_getElem (by omega)] at c0
  replace c0 : ∃ x, World.cell? _ _ = some x := ⟨_, c0⟩
  obtain ⟨xf, c0⟩ := c0
  simp only [World.size_alloc] at f0 c0
  obtain ⟨o1, m1, hm1, ho1, hsl⟩ := run_slice_arr_l' (P := Tryd.prog) 104 64 5 i0 Tryd.underlying104 hi hz1 (w.heap.size + 1) (f + 1) ((f : Int) + 1) (by omega) (by omega)
  have HM1 := Lib.hid hm1
  have HO1 := Lib.hid ho1
  clear hs hl hk hres hf hn hzv hm1 ho1
  unfold stV wordsV arrV
  change Calls _ _ #[.agg #[.int .u32 (sa : Int), .int .u32 (sb : Int), .int .u32 (sc : Int), .int .u32 (sd : Int), .int .u32 (se : Int), .int .u32 (sf : Int), .int .u32 (sg : Int), .int .u32 (sh : Int)], .agg (cs.map bv).toArray, .int .i64 (f : Int), .int .u64 (n : Int)] _ _
  go_enter Tryd.func59, Tryd.ntmps59
  go_wp2_with (refine wpList_clear_blk rfl _ _ rfl 5 (.int .u8 0) Tryd.underlying23 HZV.out rfl rfl (w.heap.size + 1) (f + 1) o1 m1 m1 104 ((cs.map bv).set f (.int .u8 128)) ?_ rfl HO1.out ?_ ?_)
  · exact (by have h := (Blk.made (w.alloc (.cells #[.int .u32 (sa : Int), .int .u32 (sb : Int), .int .u32 (sc : Int), .int .u32 (sd : Int), .int .u32 (se : Int), .int .u32 (sf : Int), .int .u32 (sg : Int), .int .u32 (sh : Int)] 102)) 104 ((cs.map bv).set f (.int .u8 128))).alloc (.cells #[.int .u32 0, .int .u32 0, .int .u32 0, .int .u32 0, .int .u32 0, .int .u32 0, .int .u32 0, .int .u32 0] 102); simp only [World.size_alloc] at h; exact h)
  · have := HM1.out; have := HL.out; have := HF.out; simp; omega
  intro w2 hb2 hs2
  rw [HM1.out, mark_clear HL.out HF.out] at hb2
  have ST2 : EndSt w ⟨sa, sb, sc, sd, se, sf, sg, sh⟩ (markC cs f) w2 := by
    have h0 := (((Blk.made w 102 [.int .u32 (sa : Int), .int .u32 (sb : Int), .int .u32 (sc : Int), .int .u32 (sd : Int), .int .u32 (se : Int), .int .u32 (sf : Int), .int .u32 (sg : Int), .int .u32 (sh : Int)]).alloc (.cells ((cs.map bv).set f (.int .u8 128)).toArray 104)).alloc (.cells #[.int .u32 0, .int .u32 0, .int .u32 0, .int .u32 0, .int .u32 0, .int .u32 0, .int .u32 0, .int .u32 0] 102))
    have h1 := Blk.made ((w.alloc (.cells #[.int .u32 (sa : Int), .int .u32 (sb : Int), .int .u32 (sc : Int), .int .u32 (sd : Int), .int .u32 (se : Int), .int .u32 (sf : Int), .int .u32 (sg : Int), .int .u32 (sh : Int)] 102)).alloc (.cells ((cs.map bv).set f (.int .u8 128)).toArray 104)) 102 [.int .u32 0, .int .u32 0, .int .u32 0, .int .u32 0, .int .u32 0, .int .u32 0, .int .u32 0, .int .u32 0]
    simp only [World.size_alloc] at h1
    have h2 := ((((Below.refl w.heap.size w).alloc (Nat.le_refl _) (.cells #[.int .u32 (sa : Int), .int .u32 (sb : Int), .int .u32 (sc : Int), .int .u32 (sd : Int), .int .u32 (se : Int), .int .u32 (sf : Int), .int .u32 (sg : Int), .int .u32 (sh : Int)] 102)).alloc (by simp) (.cells ((cs.map bv).set f (.int .u8 128)).toArray 104)).alloc (by simp; omega) (.cells #[.int .u32 0, .int .u32 0, .int .u32 0, .int .u32 0, .int .u32 0, .int .u32 0, .int .u32 0, .int .u32 0] 102))
    exact ⟨hs2.blk h0 (by omega), hb2, hs2.blk h1 (by omega), h2.trans (hs2.below.mono (by omega))⟩
  have ST := Lib.hid ST2
  have HK2 := Lib.hid (HK.out.below ST2.below)
  clear hb2 hs2 ST2 c0 f0 hsl HO1 HM1
  by_cases h56 : 56 ≤ f
  · have i56 : (56 : Int) ≤ f := by omega
    have HE : Hid (res = goOn (goOn ⟨sa, sb, sc, sd, se, sf, sg, sh⟩ (markC cs f)) (endC (List.replicate 64 0) (n * 8) 8)) := by show res = _; rw [HRES.out, endS, if_pos h56]
    go_wp2_with (refine wpList_load_blk rfl 102 _ rfl w.heap.size rfl 102 (St.list ⟨sa, sb, sc, sd, se, sf, sg, sh⟩ |>.map wv) _ ST.out.words Tryd.underlying102 rfl HI8.out ?_)
    refine (through_any ⟨sa, sb, sc, sd, se, sf, sg, sh⟩ (w.heap.size + 1) (markC cs f) _ HOK.out ST.out.block (markC_length HL.out HF.out) HK2.out).mono ?_
    rintro e w3 ⟨rfl, hb3⟩
    have ST3 := Lib.hid (ST.out.on hb3)
    go_wp2_with (first
      | (refine wpList_store_blk rfl 102 _ _ rfl w.heap.size 102 _ ST3.out.words (St.list (goOn ⟨sa, sb, sc, sd, se, sf, sg, sh⟩ (markC cs f)) |>.map wv) rfl rfl (list_len _ _) HI8.out (wv_one _) ?_; intro w4 hb4 hs4)
      | (refine wpList_clear_blk rfl _ _ rfl 5 (.int .u8 0) Tryd.underlying23 HZV.out rfl rfl (w.heap.size + 1) 0 0 64 64 104 ((markC cs f).map bv) ((ST3.out.put hs4 hb4).block) rfl (fun _ => rfl) (by rw [List.length_map, markC_length HL.out HF.out]; omega) ?_; intro w5 hb5 hs5))
    rw [all_clear (by rw [List.length_map, markC_length HL.out HF.out])] at hb5
    have ST5 := Lib.hid ((ST3.out.put hs4 hb4).lay hs5 hb5)
    clear hb4 hs4 hb5 hs5 ST3 hb3 ST
    have ST := ST5
    go_wp2_with (fail)
    refine fin_loop _ _ _ _ _ _ _ _ _ _ _ _ _ _ _ _ _ _ _ _ _ _ _ _ _ _ _ _ _ _ _ _ _ _ (List.replicate 64 0) (Lib.hid (by simp)) (n * 8) (by omega) _ (w.heap.size + 1) (Lib.hid ST.out.block) (Lib.hid ?_)
    intro u10 u24 u25 u26 u27 u28 u29 u30 u31 u32 u33 u34 w8 hb8 hl8
    have ST8 : Hid (EndSt w (goOn ⟨sa, sb, sc, sd, se, sf, sg, sh⟩ (markC cs f)) (endC (List.replicate 64 0) (n * 8) 8) w8) := Lib.hid (ST.out.lay hl8.out hb8.out)
    have HK8 := Lib.hid (HK.out.below ST8.out.below)
    go_wp2_with (refine wpList_load_blk rfl 102 _ rfl w.heap.size rfl 102 (St.list (goOn ⟨sa, sb, sc, sd, se, sf, sg, sh⟩ (markC cs f)) |>.map wv) _ ST8.out.words Tryd.underlying102 rfl HI8.out ?_)
    refine (through_any (goOn ⟨sa, sb, sc, sd, se, sf, sg, sh⟩ (markC cs f)) (w.heap.size + 1) (endC (List.replicate 64 0) (n * 8) 8) _ (goOn_ok _ _) ST8.out.block (endC_length (by simp) _ (by omega)) HK8.out).mono ?_
    rintro e w9 ⟨rfl, hb9⟩
    have ST9 := Lib.hid (ST8.out.on hb9)
    rw [← HE.out]
    go_wp2_with (refine wpList_store_blk rfl 102 _ _ rfl (w.heap.size + 1 + 1) 102 _ ST9.out.res (res.list.map wv) rfl rfl (list_len8 _) HI8.out (wv_one _) ?_; intro w10 hb10 hs10)
    refine bodyPost_ret ?_ rfl ⟨rfl, ST9.out.below.trans (hs10.below.mono (by omega))⟩
    exact results_blk (ty := 102) Tryd.results59 _ w10 (w.heap.size + 1 + 1) 102 (res.list.map wv) _ rfl hb10 Tryd.underlying102 rfl HI8.out
  · have i56 : (f : Int) < 56 := by omega
    have HE : Hid (res = goOn ⟨sa, sb, sc, sd, se, sf, sg, sh⟩ (endC (markC cs f) (n * 8) 8)) := by show res = _; rw [HRES.out, endS, if_neg h56]
    go_wp2_with (fail)
    refine fin_loop _ _ _ _ _ _ _ _ _ _ _ _ _ _ _ _ _ _ _ _ _ _ _ _ _ _ _ _ _ _ _ _ _ _ (markC cs f) (Lib.hid (markC_length HL.out HF.out)) (n * 8) (by omega) _ (w.heap.size + 1) (Lib.hid ST.out.block) (Lib.hid ?_)
    intro u10 u24 u25 u26 u27 u28 u29 u30 u31 u32 u33 u34 w8 hb8 hl8
    have ST8 : Hid (EndSt w (⟨sa, sb, sc, sd, se, sf, sg, sh⟩) (endC (markC cs f) (n * 8) 8) w8) := Lib.hid (ST.out.lay hl8.out hb8.out)
    have HK8 := Lib.hid (HK.out.below ST8.out.below)
    go_wp2_with (refine wpList_load_blk rfl 102 _ rfl w.heap.size rfl 102 (St.list (⟨sa, sb, sc, sd, se, sf, sg, sh⟩) |>.map wv) _ ST8.out.words Tryd.underlying102 rfl HI8.out ?_)
    refine (through_any (⟨sa, sb, sc, sd, se, sf, sg, sh⟩) (w.heap.size + 1) (endC (markC cs f) (n * 8) 8) _ (HOK.out) ST8.out.block (endC_length (markC_length HL.out HF.out) _ (by omega)) HK8.out).mono ?_
    rintro e w9 ⟨rfl, hb9⟩
    have ST9 := Lib.hid (ST8.out.on hb9)
    rw [← HE.out]
    go_wp2_with (refine wpList_store_blk rfl 102 _ _ rfl (w.heap.size + 1 + 1) 102 _ ST9.out.res (res.list.map wv) rfl rfl (list_len8 _) HI8.out (wv_one _) ?_; intro w10 hb10 hs10)
    refine bodyPost_ret ?_ rfl ⟨rfl, ST9.out.below.trans (hs10.below.mono (by omega))⟩
    exact results_blk (ty := 102) Tryd.results59 _ w10 (w.heap.size + 1 + 1) 102 (res.list.map wv) _ rfl hb10 Tryd.underlying102 rfl HI8.out
end Go.Proofs.YtnaccngcpjkmbaaDoor

/- Plain arithmetic: the published fingerprint, block by block. No condition of its own. -/
namespace Go.Proofs.YtnaccngcpjkmbaaDoor
open Go.RowKit

/-- The block of that number. -/
def blockAt (m : List UInt8) (q : Nat) : List UInt8 := (m.drop (64 * q)).take 64
theorem wordsAt_block (m : List UInt8) (p : Nat) : ∀ i, i ≤ 16 → wordsAt ((m.drop p).take 64) 0 i = wordsAt m p i
  | 0, _ => rfl
  | i + 1, h => by
    rw [wordsAt, wordsAt, wordsAt_block m p i (by omega)]
    congr 3
    rw [List.drop_take, List.drop_drop, List.take_take, Nat.zero_add]
    congr 1
    omega
theorem block_eq (s : St) (m : List UInt8) (q : Nat) : block s m (64 * q) = goOn s (blockAt m q) := by
  unfold block goOn spreadN blockAt
  rw [wordsAt_block m _ 16 (Nat.le_refl _)]
theorem blocks_succ (m : List UInt8) (q : Nat) : blocks m (q + 1) = goOn (blocks m q) (blockAt m q) := by rw [blocks, block_eq]
theorem blockAt_prefix (ys zs : List UInt8) (q : Nat) (h : 64 * q + 64 ≤ ys.length) : blockAt (ys ++ zs) q = blockAt ys q := by
  unfold blockAt
  rw [List.drop_append_of_le_length (by omega), List.take_append_of_le_length (by simp; omega)]
theorem blocks_prefix (ys zs : List UInt8) : ∀ q, 64 * q ≤ ys.length → blocks (ys ++ zs) q = blocks ys q
  | 0, _ => rfl
  | q + 1, h => by rw [blocks_succ, blocks_succ, blocks_prefix ys zs q (by omega), blockAt_prefix ys zs q (by omega)]
/-- What goes through the blocks: the words behind the whole ones, and a block whose beginning is the rest. -/
structure Flow (ys : List UInt8) (s : St) (cs : List UInt8) (f : Nat) : Prop where
  words : s = blocks ys (ys.length / 64)
  len : cs.length = 64
  fill : f = ys.length % 64
  rest : cs.take f = ys.drop (64 * (ys.length / 64))
theorem Flow.lt {ys : List UInt8} {s : St} {cs : List UInt8} {f : Nat} (h : Flow ys s cs f) : f < 64 := by rw [h.fill]; omega
theorem Flow.start : Flow [] St.first (List.replicate 64 0) 0 := ⟨rfl, by simp, rfl, rfl⟩
theorem Flow.more {ys : List UInt8} {s : St} {cs : List UInt8} {f : Nat} (h : Flow ys s cs f) (zs : List UInt8) (hz : f + zs.length < 64) : Flow (ys ++ zs) s (splice cs f zs) (f + zs.length) := by
  have hf := h.fill
  have e1 : (ys ++ zs).length / 64 = ys.length / 64 := by rw [List.length_append]; omega
  have hl := h.len
  refine ⟨?_, ?_, ?_, ?_⟩
  · rw [e1, blocks_prefix ys zs _ (by omega)]; exact h.words
  · rw [length_splice _ _ _ (by omega)]; exact hl
  · rw [List.length_append]; omega
  · rw [e1, List.drop_append_of_le_length (by omega), ← h.rest]
    unfold splice
    rw [← List.append_assoc, List.take_append_of_le_length (by simp; omega), List.take_of_length_le (by simp; omega)]
theorem Flow.full {ys : List UInt8} {s : St} {cs : List UInt8} {f : Nat} (h : Flow ys s cs f) (zs : List UInt8) (hz : f + zs.length = 64) : Flow (ys ++ zs) (goOn s (splice cs f zs)) (splice cs f zs) 0 := by
  have hf := h.fill
  have hl := h.len
  have e1 : (ys ++ zs).length / 64 = ys.length / 64 + 1 := by rw [List.length_append]; omega
  have e2 : splice cs f zs = cs.take f ++ zs := by
    unfold splice
    rw [List.drop_of_length_le (by omega), List.append_nil]
  have e3 : blockAt (ys ++ zs) (ys.length / 64) = splice cs f zs := by
    rw [e2, h.rest]
    unfold blockAt
    rw [List.drop_append_of_le_length (by omega), List.take_of_length_le (by simp; omega)]
  refine ⟨?_, ?_, ?_, ?_⟩
  · rw [e1, blocks_succ, blocks_prefix ys zs _ (by omega), e3, h.words]
  · rw [length_splice _ _ _ (by omega)]; exact hl
  · rw [List.length_append]; omega
  · rw [e1, List.drop_of_length_le (by rw [List.length_append]; omega)]; rfl
theorem take_mark {a : List UInt8} {f : Nat} (ha : a.length = f) (hf : f < 56) : (a ++ [128] ++ List.replicate (63 - f) (0 : UInt8)).take 56 = a ++ [128] ++ List.replicate (55 - f) 0 := by
  rw [List.take_append, List.take_of_length_le (by simp; omega), List.take_replicate]
  congr 2
  simp
  omega
theorem Flow.finish {ys : List UInt8} {s : St} {cs : List UInt8} {f : Nat} (h : Flow ys s cs f) : (endS s cs f ys.length).bytes = shaB ys := by
  have hf := h.fill
  have hl := h.len
  have hlt := h.lt
  obtain ⟨q, hq⟩ : ∃ q, q = ys.length / 64 := ⟨_, rfl⟩
  have hw : s = blocks ys q := by rw [hq]; exact h.words
  have hr : cs.take f = ys.drop (64 * q) := by rw [hq]; exact h.rest
  have hrl : (ys.drop (64 * q)).length = f := by rw [List.length_drop]; omega
  have hpl := padB_length ys
  have hp : padB ys = ys ++ ([128] ++ List.replicate (padN ys.length) 0 ++ beB 8 (ys.length * 8)) := by simp [padB]
  unfold shaB
  congr 1
  by_cases h56 : 56 ≤ f
  · have hpn : padN ys.length = 119 - f := by unfold padN; omega
    rw [endS, if_pos h56]
    have e1 : (padB ys).length / 64 = q + 1 + 1 := by rw [hpl, hpn]; omega
    have e2 : blockAt (padB ys) q = markC cs f := by
      unfold blockAt markC
      rw [hp, List.drop_append_of_le_length (by omega), hr, List.take_append, hrl, List.take_of_length_le (by omega), List.append_assoc, List.append_assoc]
      congr 1
      rw [show 64 - f = (63 - f) + 1 by omega, List.singleton_append, List.take_succ_cons, List.take_append, List.take_replicate, List.length_replicate, hpn, show 63 - f - (119 - f) = 0 by omega, show min (63 - f) (119 - f) = 63 - f by omega]
      simp
    have e3 : blockAt (padB ys) (q + 1) = endC (List.replicate 64 0) (ys.length * 8) 8 := by
      unfold blockAt endC
      have e4 : padB ys = (ys ++ [128] ++ List.replicate (63 - f) 0) ++ (List.replicate 56 0 ++ beB 8 (ys.length * 8)) := by
        rw [padB, hpn, show 119 - f = (63 - f) + 56 by omega, ← List.replicate_append_replicate]
        simp
      have e5 : (ys ++ [128] ++ List.replicate (63 - f) (0 : UInt8)).length = 64 * (q + 1) := by simp; omega
      rw [e4, ← e5, List.drop_left, List.take_of_length_le (by simp [beB_length]), List.take_replicate]
      rfl
    rw [e1, blocks_succ, blocks_succ, e2, e3, hp, blocks_prefix _ _ q (by omega), ← hw]
  · have hpn : padN ys.length = 55 - f := by unfold padN; omega
    rw [endS, if_neg h56]
    have e1 : (padB ys).length / 64 = q + 1 := by rw [hpl, hpn]; omega
    have e2 : blockAt (padB ys) q = endC (markC cs f) (ys.length * 8) 8 := by
      unfold blockAt endC markC
      rw [hp, List.drop_append_of_le_length (by omega), hr, take_mark hrl (by omega), hpn, List.take_of_length_le (by simp [beB_length]; omega)]
      simp
    rw [e1, blocks_succ, e2, hp, blocks_prefix _ _ q (by omega), ← hw]
end Go.Proofs.YtnaccngcpjkmbaaDoor
