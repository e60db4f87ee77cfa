/- The second reference's Sum: the loop of thirty-two stores. Conditions: words that fit uint32. -/
import Derived.Test.YtpjidfcbckndfaaDoorRefWords
import Derived.Test.YtpjidfcbckndfaaDoorBlk
namespace Go.Proofs.YtpjidfcbckndfaaDoor
open Go.RowKit

noncomputable def body_outs : Code := (((Tryd.f19.body.map loopsOf).getD [])[5]?).getD .skip
/-- The block of 32 bytes behind i stores. -/
def outC (bs : List UInt8) (i : Nat) : List Value := (bs.take i).map bv ++ List.replicate (32 - i) (.int .u8 0)
theorem flat_get (l : List Nat) : ∀ (j : Nat), j < 4 * l.length → (l.flatMap (beB 4))[j]? = (beB 4 (l.getD (j / 4) 0))[j % 4]? := by
  induction l with
  | nil => intro j hj; simp at hj
  | cons x r ih =>
    intro j hj
    rw [List.flatMap_cons]
    have h4 : (beB 4 x).length = 4 := beB_length 4 x
    by_cases h : j < 4
    · rw [List.getElem?_append_left (by omega), show j / 4 = 0 by omega, show j % 4 = j by omega]; rfl
    · rw [List.getElem?_append_right (by omega), h4, ih (j - 4) (by simp at hj; omega), show (j - 4) % 4 = j % 4 by omega, show j / 4 = (j - 4) / 4 + 1 by omega]; rfl
theorem St.bytes_flat (s : St) : s.bytes = s.list.flatMap (beB 4) := by simp [St.bytes, St.list]
theorem St.bytes_length (s : St) : s.bytes.length = 32 := by simp [St.bytes, beB_length]
theorem outC_set {bs : List UInt8} {j : Nat} {c : UInt8} (hj : j < 32) (hb : bs.length = 32) (hc : bs[j]? = some c) : (outC bs j).set j (bv c) = outC bs (j + 1) := by
  have hj' : j < bs.length := by omega
  rw [List.getElem?_eq_getElem hj'] at hc
  unfold outC
  rw [List.take_succ_eq_append_getElem hj', Option.some.inj hc, show 32 - j = (32 - (j + 1)) + 1 by omega, List.replicate_succ, List.map_append, List.set_append_right _ _ (by simp; omega), List.append_assoc]
  have e : j - ((bs.take j).map bv).length = 0 := by simp; omega
  rw [e]
  simp
def OutRel (bs : List UInt8) (w : World) (B : Nat) (i : Value) (wr : World) : Prop :=
  ∃ j : Nat, i = .int .i64 (j : Int) ∧ j ≤ 32 ∧ Blk wr B 26 (outC bs j) ∧ Below B w wr
set_option maxRecDepth 100000 in
set_option maxHeartbeats 2000000 in
theorem outs_loop (c0 c1 c2 c3 c5 c6 c7 c8 c9 c10 c11 c12 c13 c14 c15 c16 c17 c18 c19 c20 c21 c22 c23 c26 c27 c28 c29 c30 c31 c32 c33 c34 c35 c36 c37 c38 c39 c40 c41 c42 c43 c44 c45 c46 c47 c48 c49 c50 c51 c52 c53 c54 c55 c56 c57 c58 c59 c60 c61 c62 c63 c64 c65 c66 c67 c68 c69 c70 c71 c72 c73 c74 c75 c76 c77 c78 c79 c80 c81 c82 c83 c84 c85 c86 c87 c88 c89 c90 c91 c92 c93 c94 c95 c96 c97 c98 c99 c100 c101 c102 c103 c104 c105 c106 c107 c108 c109 c110 c111 c112 c113 c114 c115 c116 c117 c118 c119 c120 c121 c122 c123 c124 c125 c126 c127 c128 c129 c130 c131 c132 c133 c134 c135 c136 c137 c138 c139 c140 c141 c142 c143 c144 c145 c146 c147 c148 c149 c150 c151 c152 c153 c154 c155 c156 c157 c158 c159 c160 c161 c162 c163 c164 c165 c166 c167 c168 c169 c170 c171 c172 c173 c174 c175 c176 c177 c178 c179 c180 c181 c182 c183 c184 c185 c186 c187 c188 c189 c190 c191 c192 c193 c194 c195 c196 c197 c198 c199 c200 c201 c202 c203 c204 c205 c206 c207 c208 c209 c210 c211 c212 c213 c214 c215 c216 c217 c218 c219 c220 c221 c222 c223 c224 c225 c226 c227 c228 c229 c230 c231 c232 c233 c234 c235 c236 c237 c238 c239 c240 c241 c242 c243 c244 c245 c246 c247 c248 c249 c250 c251 c252 c253 c254 c255 c256 c257 c258 c259 c260 c261 c262 c263 c264 c265 c266 c267 c268 c269 c270 c271 c272 c273 c274 c275 c276 c277 c278 c279 c280 c281 c282 c283 c284 : Value) (s : St) (hs : Hid s.ok) (w : World) (B g c : Nat) (hh : Hid (∀ i (h : i < s.list.length), w.cell? ⟨g, i, none⟩ = some (.int .u32 ((s.list[i] : Nat) : Int)))) (hg : g < B) (h0 : Hid (Blk w B 26 (outC s.bytes 0))) {Q : Exit → Act → World → Prop}
    (HQ : Hid (∀ (u25 u267 u268 u269 u270 u271 u272 u273 u274 u275 u276 u277 u278 u279 u280 u281 u282 u283 : Value) (wx : World), Hid (Blk wx B 26 (outC s.bytes 32)) → Hid (Below B w wx) → Q (.exit 10) ⟨List.toArray (c0 :: c1 :: c2 :: c3 :: (.slice (some ⟨g, 0, none⟩) 8 c) :: c5 :: c6 :: c7 :: c8 :: c9 :: c10 :: c11 :: c12 :: c13 :: c14 :: c15 :: c16 :: c17 :: c18 :: c19 :: c20 :: c21 :: c22 :: c23 :: (.pointer (some ⟨B, 0, none⟩)) :: u25 :: c26 :: c27 :: c28 :: c29 :: c30 :: c31 :: c32 :: c33 :: c34 :: c35 :: c36 :: c37 :: c38 :: c39 :: c40 :: c41 :: c42 :: c43 :: c44 :: c45 :: c46 :: c47 :: c48 :: c49 :: c50 :: c51 :: c52 :: c53 :: c54 :: c55 :: c56 :: c57 :: c58 :: c59 :: c60 :: c61 :: c62 :: c63 :: c64 :: c65 :: c66 :: c67 :: c68 :: c69 :: c70 :: c71 :: c72 :: c73 :: c74 :: c75 :: c76 :: c77 :: c78 :: c79 :: c80 :: c81 :: c82 :: c83 :: c84 :: c85 :: c86 :: c87 :: c88 :: c89 :: c90 :: c91 :: c92 :: c93 :: c94 :: c95 :: c96 :: c97 :: c98 :: c99 :: c100 :: c101 :: c102 :: c103 :: c104 :: c105 :: c106 :: c107 :: c108 :: c109 :: c110 :: c111 :: c112 :: c113 :: c114 :: c115 :: c116 :: c117 :: c118 :: c119 :: c120 :: c121 :: c122 :: c123 :: c124 :: c125 :: c126 :: c127 :: c128 :: c129 :: c130 :: c131 :: c132 :: c133 :: c134 :: c135 :: c136 :: c137 :: c138 :: c139 :: c140 :: c141 :: c142 :: c143 :: c144 :: c145 :: c146 :: c147 :: c148 :: c149 :: c150 :: c151 :: c152 :: c153 :: c154 :: c155 :: c156 :: c157 :: c158 :: c159 :: c160 :: c161 :: c162 :: c163 :: c164 :: c165 :: c166 :: c167 :: c168 :: c169 :: c170 :: c171 :: c172 :: c173 :: c174 :: c175 :: c176 :: c177 :: c178 :: c179 :: c180 :: c181 :: c182 :: c183 :: c184 :: c185 :: c186 :: c187 :: c188 :: c189 :: c190 :: c191 :: c192 :: c193 :: c194 :: c195 :: c196 :: c197 :: c198 :: c199 :: c200 :: c201 :: c202 :: c203 :: c204 :: c205 :: c206 :: c207 :: c208 :: c209 :: c210 :: c211 :: c212 :: c213 :: c214 :: c215 :: c216 :: c217 :: c218 :: c219 :: c220 :: c221 :: c222 :: c223 :: c224 :: c225 :: c226 :: c227 :: c228 :: c229 :: c230 :: c231 :: c232 :: c233 :: c234 :: c235 :: c236 :: c237 :: c238 :: c239 :: c240 :: c241 :: c242 :: c243 :: c244 :: c245 :: c246 :: c247 :: c248 :: c249 :: c250 :: c251 :: c252 :: c253 :: c254 :: c255 :: c256 :: c257 :: c258 :: c259 :: c260 :: c261 :: c262 :: c263 :: c264 :: c265 :: c266 :: u267 :: u268 :: u269 :: u270 :: u271 :: u272 :: u273 :: u274 :: u275 :: u276 :: u277 :: u278 :: u279 :: u280 :: u281 :: u282 :: u283 :: c284 :: []), []⟩ wx)) :
    (Code.loop body_outs).wp Tryd.prog Q ⟨List.toArray (c0 :: c1 :: c2 :: c3 :: (.slice (some ⟨g, 0, none⟩) 8 c) :: c5 :: c6 :: c7 :: c8 :: c9 :: c10 :: c11 :: c12 :: c13 :: c14 :: c15 :: c16 :: c17 :: c18 :: c19 :: c20 :: c21 :: c22 :: c23 :: (.pointer (some ⟨B, 0, none⟩)) :: (.int .i64 0) :: c26 :: c27 :: c28 :: c29 :: c30 :: c31 :: c32 :: c33 :: c34 :: c35 :: c36 :: c37 :: c38 :: c39 :: c40 :: c41 :: c42 :: c43 :: c44 :: c45 :: c46 :: c47 :: c48 :: c49 :: c50 :: c51 :: c52 :: c53 :: c54 :: c55 :: c56 :: c57 :: c58 :: c59 :: c60 :: c61 :: c62 :: c63 :: c64 :: c65 :: c66 :: c67 :: c68 :: c69 :: c70 :: c71 :: c72 :: c73 :: c74 :: c75 :: c76 :: c77 :: c78 :: c79 :: c80 :: c81 :: c82 :: c83 :: c84 :: c85 :: c86 :: c87 :: c88 :: c89 :: c90 :: c91 :: c92 :: c93 :: c94 :: c95 :: c96 :: c97 :: c98 :: c99 :: c100 :: c101 :: c102 :: c103 :: c104 :: c105 :: c106 :: c107 :: c108 :: c109 :: c110 :: c111 :: c112 :: c113 :: c114 :: c115 :: c116 :: c117 :: c118 :: c119 :: c120 :: c121 :: c122 :: c123 :: c124 :: c125 :: c126 :: c127 :: c128 :: c129 :: c130 :: c131 :: c132 :: c133 :: c134 :: c135 :: c136 :: c137 :: c138 :: c139 :: c140 :: c141 :: c142 :: c143 :: c144 :: c145 :: c146 :: c147 :: c148 :: c149 :: c150 :: c151 :: c152 :: c153 :: c154 :: c155 :: c156 :: c157 :: c158 :: c159 :: c160 :: c161 :: c162 :: c163 :: c164 :: c165 :: c166 :: c167 :: c168 :: c169 :: c170 :: c171 :: c172 :: c173 :: c174 :: c175 :: c176 :: c177 :: c178 :: c179 :: c180 :: c181 :: c182 :: c183 :: c184 :: c185 :: c186 :: c187 :: c188 :: c189 :: c190 :: c191 :: c192 :: c193 :: c194 :: c195 :: c196 :: c197 :: c198 :: c199 :: c200 :: c201 :: c202 :: c203 :: c204 :: c205 :: c206 :: c207 :: c208 :: c209 :: c210 :: c211 :: c212 :: c213 :: c214 :: c215 :: c216 :: c217 :: c218 :: c219 :: c220 :: c221 :: c222 :: c223 :: c224 :: c225 :: c226 :: c227 :: c228 :: c229 :: c230 :: c231 :: c232 :: c233 :: c234 :: c235 :: c236 :: c237 :: c238 :: c239 :: c240 :: c241 :: c242 :: c243 :: c244 :: c245 :: c246 :: c247 :: c248 :: c249 :: c250 :: c251 :: c252 :: c253 :: c254 :: c255 :: c256 :: c257 :: c258 :: c259 :: c260 :: c261 :: c262 :: c263 :: c264 :: c265 :: c266 :: c267 :: c268 :: c269 :: c270 :: c271 :: c272 :: c273 :: c274 :: c275 :: c276 :: c277 :: c278 :: c279 :: c280 :: c281 :: c282 :: c283 :: c284 :: []), []⟩ w := by
  unfold body_outs
  conv => arg 2; arg 1; whnf
  go_loopw [25] (fun i wx => OutRel s.bytes w B i wx) (fun i _ => 32 - (intOf i).toNat)
  case atStart => exact ⟨0, rfl, by omega, h0.out, Below.refl _ _⟩
  case round =>
    obtain ⟨j, rfl, hj, hblk, bl⟩ := hrel
    by_cases hlt : j < 32
    · have hI : (j : Int) < 32 := by omega
      have l8 : s.list.length = 8 := rfl
      obtain ⟨n, hn⟩ : ∃ n, n = s.list.getD (j / 4) 0 := ⟨_, rfl⟩
      have hjl : j / 4 < s.list.length := by omega
      have hcell : wr.cell? ⟨g, j / 4, none⟩ = some (.int .u32 (n : Int)) := by
        rw [bl.cell (p := ⟨g, j / 4, none⟩) hg, hh.out (j / 4) hjl, hn]
        simp [hjl]
      have hn32 : (n : Int) ≤ 4294967295 := by
        have := list_lt hs.out _ (List.getElem_mem hjl)
        have e : n = s.list[j / 4] := by rw [hn]; simp [hjl]
        omega
      obtain ⟨cc, hcc⟩ : ∃ cc, s.bytes[j]? = some cc := ⟨_, List.getElem?_eq_getElem (by rw [St.bytes_length]; omega)⟩
      have hcc2 : (beB 4 n)[j % 4]? = some cc := by rw [hn, ← flat_get s.list j (by omega), ← St.bytes_flat, hcc]
      have HC := Lib.hid hcc
      have HC2 := Lib.hid hcc2
      have HB := Lib.hid hblk
      have HL := Lib.hid bl
      have HH : Hid (∀ w, Calls Tryd.prog 23 #[.int .u64 (n : Int), .int .i64 4] w (Own w 5 (beB 4 n))) := fun w => high_any n 4 w (by omega) (by omega)
      have i4 : ((j : Int) / 4).toNat = j / 4 := by omega
      have i5 : (j : Int) / 4 < 8 := by omega
      have i6 : ((j : Int) % 4).toNat = j % 4 := by omega
      clear hcc hcc2 hblk bl hn l8 hjl
      go_wp2_with (fail)
      with_reducible refine (HH.out _).mono ?_
      rintro e w4 ⟨v4, rfl, own4, hb4⟩
      rw [beB_length] at own4
      obtain ⟨g4, c4, rfl, _, _⟩ := own_form own4 (by omega)
      have e4 := own4.cellAt (g := g4) (j % 4) (by omega)
      rw [List.getElem?_map, HC2.out] at e4
      have k4 : w4.cell? ⟨g4, j % 4, none⟩ = some (bv cc) := e4
      have B4 := HB.out.below hb4 HB.out.lt
      have HS := Lib.hid (B4.set j (bv cc))
      rw [outC_set hlt (St.bytes_length s) HC.out] at HS
      have f4 : w4.frozen? ⟨B, j, none⟩ = false := B4.free j
      obtain ⟨u, hu⟩ : ∃ u, w4.cell? ⟨B, j, none⟩ = some u := by
        refine ⟨(outC s.bytes j)[j]'?_, ?_⟩
        · simp [outC, St.bytes_length]; omega
        · rw [B4.cell j]; exact List.getElem?_eq_getElem _
      have HL4 := Lib.hid ((HL.out.trans (hb4.mono (Nat.le_of_lt HB.out.lt))).setCell (p := ⟨B, j, none⟩) (Nat.le_refl _) (bv cc))
      unfold bv at k4 HS HL4
      have i7 : (j : Int) % 4 < 4 := by omega
      clear own4 hb4 e4 B4
      go_wp2_with (fail)
      go_roundw
      case rel => exact ⟨j + 1, by go_num, by omega, HS.out, HL4.out⟩
      case measure => simp [intOf]; omega
    · obtain rfl : j = 32 := by omega
      have HB := Lib.hid hblk
      have HL := Lib.hid bl
      clear hblk bl
      go_wp2_with (fail)
      exact HQ.out _ _ _ _ _ _ _ _ _ _ _ _ _ _ _ _ _ _ _ HB HL
end Go.Proofs.YtpjidfcbckndfaaDoor
