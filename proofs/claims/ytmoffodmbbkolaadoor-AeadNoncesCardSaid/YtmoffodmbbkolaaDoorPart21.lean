/- Part 21 of the words that the laws share: RTagE. No condition of its own: each theorem says its own. -/
import Derived.Test.YtmoffodmbbkolaaDoorPart12
import Derived.Test.YtmoffodmbbkolaaDoorPart19
import Derived.Test.YtmoffodmbbkolaaDoorPart20

/- The fifth reference's Tag: the loop over the blocks. Conditions: at most 1000000 bytes; r below 2^143. -/
namespace Go.Proofs.YtmoffodmbbkolaaDoor
open Go.RowKit

theorem p260 : (8192 : Nat) ^ 20 = p130 * (p130 + 10) + 25 := by decide
theorem low_mod {lo a b t : Nat} (h : lo % p130 = t % p130) : (lo + 25 * a + 25 * b * 8192) % p130 = (t + 8192 ^ 20 * (a + 8192 * b)) % p130 := by
  obtain ⟨z, hz⟩ : ∃ z, z = a + 8192 * b := ⟨_, rfl⟩
  have e : lo + 25 * a + 25 * b * 8192 = lo + 25 * z := by omega
  have e2 : t + 8192 ^ 20 * z = (t + 25 * z) + p130 * ((p130 + 10) * z) := by rw [p260, Nat.add_mul, Nat.mul_assoc]; omega
  rw [e, ← hz, e2, Nat.add_mul_mod_self_left, Nat.add_mod, h, ← Nat.add_mod]
theorem poly_step (h n r : Nat) : (h % p130 + n) * r % p130 = (n + h) * r % p130 := by
  rw [Nat.mul_mod, Nat.mod_add_mod, ← Nat.mul_mod, Nat.add_comm]
theorem dv_22 {l : List Nat} (h : l.length = 22) : dv l = dv (l.take 20) + 8192 ^ 20 * (l.getD 20 0 + 8192 * l.getD 21 0) := by
  have h1 := dv_take_succ l (i := 20) (by omega)
  have h2 := dv_take_succ l (i := 21) (by omega)
  have e : l.take (21 + 1) = l := List.take_of_length_le (by omega)
  rw [e] at h2
  rw [show (20 + 1 : Nat) = 21 from rfl] at h1
  rw [h2, h1, Nat.mul_add, ← Nat.mul_assoc, ← Nat.pow_succ]
  omega
/-- What the loop over the blocks carries along. -/
structure BlkS (w : World) (R : Nat) (m : List UInt8) (vh : Value) (j : Nat) (hs : List Nat) (W : World) : Prop where
  rq : Rq W vh hs
  len : hs.length = 10
  small : ∀ x ∈ hs, x < 8192
  val : dv hs % p130 = polyN R m j
  below : Below w.heap.size w W
def BlkRel (w : World) (R : Nat) (m : List UInt8) (vh v : Value) (W : World) : Prop := ∃ (j a : Nat) (hs : List Nat), v = .int .i64 (a : Int) ∧ a = 16 * j ∧ a < m.length + 16 ∧ BlkS w R m vh j hs W
noncomputable def body_blk : Code := (((Tryd.f24.body.map loopsOf).getD [])[1]?).getD .skip
set_option maxRecDepth 100000 in
set_option maxHeartbeats 8000000 in
theorem blk_loop (c0 c2 c3 c4 c5 c6 c7 c11 c12 c13 c14 c15 c16 c17 c18 c19 c20 c21 c22 c23 c24 c25 c26 c27 c28 c29 c30 c31 c32 c33 c34 c35 c36 c37 c38 c39 c40 c41 c42 c43 c44 c45 c46 c47 c48 c49 c50 c51 c52 c53 c54 c55 c56 c57 c58 c59 c60 c61 c62 c63 c64 c65 c66 c67 c68 c69 c70 c71 c72 c73 c74 c75 c76 c77 c78 c79 c80 c81 c82 c83 c84 c85 c86 c87 c88 c89 c90 c91 c92 c93 c94 c95 c96 c97 c98 c99 c100 c101 c102 c103 c104 c105 c106 c107 c108 c109 c110 c111 c112 c113 c114 c115 c116 c117 c118 c119 c120 c121 c122 c123 c124 c125 c126 c127 c128 c129 c130 c131 c132 c133 c134 c135 c136 c137 c138 c139 c140 c141 c142 c143 c144 c145 c146 c147 c148 c149 c150 c151 c152 c153 c154 c155 c156 c157 c158 c159 c160 c161 c162 c163 c164 c165 c166 c167 c168 c169 c170 c171 c172 c173 c174 c175 c176 c177 c178 c179 c180 c181 c182 c183 c184 c185 c186 c187 c188 c189 c190 : Value) (v : Value) (m : List UInt8) (F R : Nat) (vh0 : Value) (w : World) (hv : Hid (Rd w v m)) (hl : m.length ≤ 1000000) (hR : Hid (R < 8192 ^ 11)) (hf : Hid (Blk w F 39 ((dg 11 R).map wq))) (h0 : Hid (BlkS w R m vh0 0 (List.replicate 10 0) w)) {Q : Exit → Act → World → Prop}
    (HQ : Hid (∀ (u10 u11 u12 u13 u14 u15 u16 u17 u53 u54 u55 u56 u57 u58 u59 u60 u61 u62 u63 u64 u65 u66 u67 u68 u69 u70 u71 u72 u73 u74 u75 u76 u77 u78 u79 u80 u81 u82 u83 u84 u85 u86 u87 u88 u89 u90 u91 u92 u93 u94 u95 u96 u97 u98 u99 u100 u101 u102 u103 u104 u105 u106 u107 u108 u109 u110 u111 u112 u113 u114 u115 u116 u117 u118 u119 u120 u121 u122 u123 u124 u125 u126 u127 u128 u129 u130 u131 u132 u133 u134 u135 u136 u137 u138 u139 u140 u141 u142 u143 vh : Value) (hs : List Nat) (wx : World), Hid (BlkS w R m vh (blksN m) hs wx) → Q (.exit 2) ⟨List.toArray (c0 :: v :: c2 :: c3 :: c4 :: c5 :: c6 :: c7 :: (.slice (some ⟨F, 0, none⟩) 11 11) :: vh :: u10 :: u11 :: u12 :: u13 :: u14 :: u15 :: u16 :: u17 :: c18 :: c19 :: c20 :: c21 :: c22 :: c23 :: c24 :: c25 :: c26 :: c27 :: c28 :: c29 :: c30 :: c31 :: c32 :: c33 :: c34 :: c35 :: c36 :: c37 :: c38 :: c39 :: c40 :: c41 :: c42 :: c43 :: c44 :: c45 :: c46 :: c47 :: c48 :: c49 :: c50 :: c51 :: c52 :: u53 :: u54 :: u55 :: u56 :: u57 :: u58 :: u59 :: u60 :: u61 :: u62 :: u63 :: u64 :: u65 :: u66 :: u67 :: u68 :: u69 :: u70 :: u71 :: u72 :: u73 :: u74 :: u75 :: u76 :: u77 :: u78 :: u79 :: u80 :: u81 :: u82 :: u83 :: u84 :: u85 :: u86 :: u87 :: u88 :: u89 :: u90 :: u91 :: u92 :: u93 :: u94 :: u95 :: u96 :: u97 :: u98 :: u99 :: u100 :: u101 :: u102 :: u103 :: u104 :: u105 :: u106 :: u107 :: u108 :: u109 :: u110 :: u111 :: u112 :: u113 :: u114 :: u115 :: u116 :: u117 :: u118 :: u119 :: u120 :: u121 :: u122 :: u123 :: u124 :: u125 :: u126 :: u127 :: u128 :: u129 :: u130 :: u131 :: u132 :: u133 :: u134 :: u135 :: u136 :: u137 :: u138 :: u139 :: u140 :: u141 :: u142 :: u143 :: c144 :: c145 :: c146 :: c147 :: c148 :: c149 :: c150 :: c151 :: c152 :: c153 :: c154 :: c155 :: c156 :: c157 :: c158 :: c159 :: c160 :: c161 :: c162 :: c163 :: c164 :: c165 :: c166 :: c167 :: c168 :: c169 :: c170 :: c171 :: c172 :: c173 :: c174 :: c175 :: c176 :: c177 :: c178 :: c179 :: c180 :: c181 :: c182 :: c183 :: c184 :: c185 :: c186 :: c187 :: c188 :: c189 :: c190 :: []), []⟩ wx)) :
    (Code.loop body_blk).wp Tryd.prog Q ⟨List.toArray (c0 :: v :: c2 :: c3 :: c4 :: c5 :: c6 :: c7 :: (.slice (some ⟨F, 0, none⟩) 11 11) :: vh0 :: (.int .i64 0) :: c11 :: c12 :: c13 :: c14 :: c15 :: c16 :: c17 :: c18 :: c19 :: c20 :: c21 :: c22 :: c23 :: c24 :: c25 :: c26 :: c27 :: c28 :: c29 :: c30 :: c31 :: c32 :: c33 :: c34 :: c35 :: c36 :: c37 :: c38 :: c39 :: c40 :: c41 :: c42 :: c43 :: c44 :: c45 :: c46 :: c47 :: c48 :: c49 :: c50 :: c51 :: c52 :: c53 :: c54 :: c55 :: c56 :: c57 :: c58 :: c59 :: c60 :: c61 :: c62 :: c63 :: c64 :: c65 :: c66 :: c67 :: c68 :: c69 :: c70 :: c71 :: c72 :: c73 :: c74 :: c75 :: c76 :: c77 :: c78 :: c79 :: c80 :: c81 :: c82 :: c83 :: c84 :: c85 :: c86 :: c87 :: c88 :: c89 :: c90 :: c91 :: c92 :: c93 :: c94 :: c95 :: c96 :: c97 :: c98 :: c99 :: c100 :: c101 :: c102 :: c103 :: c104 :: c105 :: c106 :: c107 :: c108 :: c109 :: c110 :: c111 :: c112 :: c113 :: c114 :: c115 :: c116 :: c117 :: c118 :: c119 :: c120 :: c121 :: c122 :: c123 :: c124 :: c125 :: c126 :: c127 :: c128 :: c129 :: c130 :: c131 :: c132 :: c133 :: c134 :: c135 :: c136 :: c137 :: c138 :: c139 :: c140 :: c141 :: c142 :: c143 :: c144 :: c145 :: c146 :: c147 :: c148 :: c149 :: c150 :: c151 :: c152 :: c153 :: c154 :: c155 :: c156 :: c157 :: c158 :: c159 :: c160 :: c161 :: c162 :: c163 :: c164 :: c165 :: c166 :: c167 :: c168 :: c169 :: c170 :: c171 :: c172 :: c173 :: c174 :: c175 :: c176 :: c177 :: c178 :: c179 :: c180 :: c181 :: c182 :: c183 :: c184 :: c185 :: c186 :: c187 :: c188 :: c189 :: c190 :: []), []⟩ w := by
  obtain ⟨i0, hi0, hz0, hz1, hz2⟩ := info_parts info_u8
  obtain ⟨i3, q0, q1, q2, q3⟩ := info_parts info_u64
  obtain ⟨A, c, rfl, hc1, hc2, _⟩ := hv.out.form
  have lI : (m.length : Int) ≤ 1000000 := by omega
  unfold maxLen at hc2
  unfold body_blk
  conv => arg 2; arg 1; whnf
  go_loopw [9, 10] (fun vh v wx => BlkRel w R m vh v wx) (fun _ v _ => m.length - (intOf v).toNat)
  case atStart => exact ⟨0, 0, _, rfl, rfl, by omega, h0.out⟩
  case round =>
    obtain ⟨j, a, hs, rfl, ha, hal, st⟩ := hrel
    have HA := Lib.hid ha
    by_cases hlt : a < m.length
    · have aI : (a : Int) < m.length := by omega
      obtain ⟨e, he⟩ : ∃ e, e = min (a + 16) m.length := ⟨_, rfl⟩
      have e1 : a ≤ e := by omega
      have e2 : e ≤ m.length := by omega
      have RM := hv.out.below st.below
      obtain ⟨A2, c2, S2, r2⟩ := RM.mid (P := Tryd.prog) 26 5 i0 Tryd.underlying26 hi0 hz1 a e e1 e2
      obtain ⟨bs, hbs⟩ := ex_eq1 ((m.drop a).take (e - a))
      have HBS : Hid (bs = blkP m j) := by
        show _ = _
        rw [hbs, blkP, ← ha]
        rcases Nat.lt_or_ge m.length (a + 16) with h | h
        · rw [List.take_of_length_le (by rw [List.length_drop]; omega), List.take_of_length_le (by rw [List.length_drop]; omega)]
        · rw [show e - a = 16 by omega]
      have HBL : Hid (bs.length = e - a) := by show _ = _; rw [hbs, List.length_take, List.length_drop]; omega
      have HB16 : Hid (bs.length ≤ 16) := Lib.hid (by rw [HBL.out]; omega)
      rw [← hbs] at r2
      have aI0 : (a : Int) ≤ (e : Int) := by omega
      have eI : (e : Int) ≤ m.length := by omega
      have HST := Lib.hid st
      have R2 := Lib.hid (r2.below ((Below.refl _ _).alloc (Nat.le_refl _) (.cells #[] 5)))
      have OW : Hid ((wr.alloc (.cells #[] 5)).ownsRow wr.heap.size 5 1 (.slice (some ⟨wr.heap.size, 0, none⟩) 0 0) 0 []) := Lib.hid (by simpa using World.ownsRow_lit (base := wr.heap.size) (size := 1) (e := 5) wr #[] 0 (Nat.le_refl _) (by simp) rfl)
      have S3 : ∀ z : Int, z = (e : Int) → ∀ W, (Instr.slice 26 (.slice A m.length c) (some (.int .i64 (a : Int))) (some (.int .i64 z)) none).run Tryd.prog W = .ok (.slice A2 (e - a) c2) W := fun z hz W => by rw [hz]; exact S2 W
      have HS3 := Lib.hid S3
      have HE := Lib.hid he
      clear ha hal st RM r2 he hbs e1 e2 S2 S3
      by_cases hcase : m.length < a + 16
      · have hcI : (m.length : Int) < (a : Int) + 16 := by omega
        have HEQ : Hid (e = m.length) := Lib.hid (by rw [HE.out]; omega)
        have S4 := HS3.out (m.length : Int) (by rw [HEQ.out])
        clear hcase
        go_wp2_with (at_builtin
                     first
                     | refine wpList_append_rd _ rfl (.tmp 59) (.tmp 67) _ rfl wr.heap.size 5 i0 _ Tryd.underlying26 hi0 hz0 hz1 hz2 rfl _ 0 [] rfl OW.out _ bs rfl R2.out ?_ ?_ ?_
                       · have := HB16.out; omega
                       · simp
                       intro v1 w1 own1 g1
                       have O1 : Hid (w1.ownsRow wr.heap.size 5 1 v1 bs.length (bs.map bv)) := Lib.hid (by simpa using own1)
                       have B1 : Hid (Below wr.heap.size wr w1) := Lib.hid (((Below.refl _ _).alloc (Nat.le_refl _) _).grown g1 (by simp) (own_ge OW.out))
                       clear own1 g1
                     | refine wpList_append_one _ _ _ rfl (.tmp 69) (.tmp 70) _ rfl wr.heap.size 5 i0 _ 1 Tryd.underlying26 hi0 hz0 hz1 hz2 rfl rfl _ bs.length _ rfl O1.out rfl ?_ ?_ B1.out.size ?_
                       · have := HB16.out; unfold maxLen; omega
                       · have := HB16.out; omega
                       intro v2 w2 own2 b2
                       have R3 : Hid (Rd w2 v2 (bs ++ [1])) := Lib.hid (Rd.of_own (by rw [List.map_append]; exact own2))
                       have B2 : Hid (Below wr.heap.size wr w2) := Lib.hid (B1.out.trans b2)
                       clear own2 b2)
        refine (digits_any v2 (bs ++ [1]) _ R3.out (by rw [List.length_append]; have := HB16.out; simp; omega)).mono ?_
        rintro e3 w3 ⟨B, rfl, hB, hblk3, hb3⟩
        obtain ⟨N, hN⟩ : ∃ N, N = numB (bs ++ [1]) := ⟨_, rfl⟩
        rw [← hN] at hblk3
        have HN := Lib.hid hN
        have HB3 := Lib.hid hblk3
        have BB : Hid (wr.heap.size ≤ B) := Lib.hid (Nat.le_trans B2.out.size hB)
        have B3 : Hid (Below wr.heap.size wr w3) := Lib.hid (B2.out.trans (hb3.mono B2.out.size))
        have Q3 := HST.out.rq.below B3.out
        obtain ⟨H, ch, hvh, hch1, hch2, hHl, hHc⟩ := Q3
        have HHlt : Hid (H < wr.heap.size) := Lib.hid (by
          obtain ⟨H', ch', hvh', _, _, hl', _⟩ := HST.out.rq
          rw [hvh'] at hvh
          injection hvh with z1 z2 z3
          injection z1 with z1
          injection z1 with z1
          omega)
        rw [HST.out.len] at hvh hch1 hHc
        subst hvh
        have HHC : Hid (∀ i, i < 10 → w3.cell? ⟨H, i, none⟩ = some (.int .u64 ((hs.getD i 0 : Nat) : Int))) := Lib.hid hHc
        have HHL := Lib.hid HST.out.len
        have HHS := Lib.hid HST.out.small
        have HAP : Hid (AdlP (dg 11 N) hs (dg 11 N) 0) := Lib.hid ⟨dg_length _ _, by simp [dv], fun q hq => by rw [dg_get 11 N hq]; have := Nat.mod_lt (N / 8192 ^ q) (show 0 < 8192 by decide); split <;> omega⟩
        have hchI : (10 : Int) ≤ ch := by omega
        unfold maxLen at hch2
        clear hblk3 hb3 hN hHc hHl
        go_wp2_with (fail)
        refine adl_loop _ _ _ _ _ _ _ _ _ _ _ _ _ _ _ _ _ _ _ _ _ _ _ _ _ _ _ _ _ _ _ _ _ _ _ _ _ _ _ _ _ _ _ _ _ _ _ _ _ _ _ _ _ _ _ _ _ _ _ _ _ _ _ _ _ _ _ _ _ _ _ _ _ _ _ _ _ _ _ _ _ _ _ _ _ _ _ _ _ _ _ _ _ _ _ _ _ _ _ _ _ _ _ _ _ _ _ _ _ _ _ _ _ _ _ _ _ _ _ _ _ _ _ _ _ _ _ _ _ _ _ _ _ _ _ _ _ _ _ _ _ _ _ _ _ _ _ _ _ _ _ _ _ _ _ _ _ _ _ _ _ _ _ _ _ _ _ _ _ _ _ _ _ _ _ _ _ _ _ _ _ _ _ _ _ _ _ _ H ch B (dg 11 N) hs w3 HHL HHS HAP (by have := HHlt.out; have := BB.out; omega) HHC HB3 (Lib.hid ?_)
        intro u13 u73 u74 u75 u76 u77 u78 u79 u80 u81 u82 u83 u84 u85 u86 u87 u88 ns w4 hp4 hb4 hs4
        have FB : Hid (∀ i, i < 11 → w4.cell? ⟨F, i, none⟩ = some (.int .u64 (((dg 11 R).getD i 0 : Nat) : Int))) := Lib.hid fun i hi => by
          have h1 := rq_cell hf.out (i := i) (by rw [dg_length]; exact hi)
          have h2 := (B3.out.cell (p := ⟨F, i, none⟩) (Nat.lt_of_lt_of_le hf.out.lt HST.out.below.size)).trans ((HST.out.below.cell (p := ⟨F, i, none⟩) hf.out.lt).trans h1)
          exact (hs4.out.cell (p := ⟨F, i, none⟩) (by have := hf.out.lt; have := HST.out.below.size; have := BB.out; show F ≠ B; omega)).trans h2
        have NB : Hid (∀ i, i < 11 → w4.cell? ⟨B, i, none⟩ = some (.int .u64 ((ns.getD i 0 : Nat) : Int))) := Lib.hid fun i hi => rq_cell hb4.out (by rw [hp4.out.1]; exact hi)
        have B4 : Hid (Below wr.heap.size wr w4) := Lib.hid (B3.out.trans (hs4.out.below.mono BB.out))
        have LB4 : Hid (B < w4.heap.size) := Lib.hid hb4.out.lt
        have LF4 : Hid (F < w4.heap.size) := Lib.hid (by have := hf.out.lt; have := HST.out.below.size; have := B4.out.size; omega)
        clear HHC HAP
        go_wp2_with (at_make
                     refine wpList_make_full _ rfl _ _ _ rfl w4.heap.size 39 i3 _ 1 Tryd.underlying69 q0 q1 q2 _ _ _ _ 22 rfl rfl ?_ ?_ ?_ ?_ (Nat.le_refl _) ?_
                     · rfl
                     · rfl
                     · rw [q3]; omega
                     · unfold maxLen; omega
                     intro w5 own5 g5
                     have hb5 := blk_of_own own5
                     rw [made_one rfl] at hb5
                     have P5 : Hid (Blk w5 w4.heap.size 39 ((List.replicate 22 0).map wq)) := Lib.hid (by rw [List.map_replicate]; exact hb5)
                     have b5 : Below w4.heap.size w4 w5 := (Below.refl _ _).grown g5 (Nat.le_refl _) (fun k h => by cases h)
                     have FB5 := Lib.hid (fun i (hi : i < 11) => (b5.cell (p := ⟨F, i, none⟩) LF4.out).trans (FB.out i hi))
                     have NB5 := Lib.hid (fun i (hi : i < 11) => (b5.cell (p := ⟨B, i, none⟩) LB4.out).trans (NB.out i hi))
                     have B5 : Hid (Below wr.heap.size wr w5) := Lib.hid (B4.out.trans (b5.mono B4.out.size))
                     clear own5 g5 hb5 b5)
        refine muo_loop _ _ _ _ _ _ _ _ _ _ _ _ _ _ _ _ _ _ _ _ _ _ _ _ _ _ _ _ _ _ _ _ _ _ _ _ _ _ _ _ _ _ _ _ _ _ _ _ _ _ _ _ _ _ _ _ _ _ _ _ _ _ _ _ _ _ _ _ _ _ _ _ _ _ _ _ _ _ _ _ _ _ _ _ _ _ _ _ _ _ _ _ _ _ _ _ _ _ _ _ _ _ _ _ _ _ _ _ _ _ _ _ _ _ _ _ _ _ _ _ _ _ _ _ _ _ _ _ _ _ _ _ _ _ _ _ _ _ _ _ _ _ _ _ _ _ _ _ _ _ _ _ _ _ _ _ _ _ _ _ _ _ _ _ _ _ _ _ _ _ _ _ _ _ _ _ _ _ _ _ _ _ _ _ _ _ _ F B w4.heap.size ns (dg 11 R) w5 (Lib.hid (dg_length _ _)) (Lib.hid hp4.out.1) (Lib.hid fun q hq => by have := hp4.out.2.2 q hq; split at this <;> omega) (Lib.hid (dg_lt 11 R)) (by have := LF4.out; omega) (by have := LB4.out; omega) FB5 NB5 P5 (Lib.hid ?_)
        intro u15 u16 u90 u91 u92 u93 u94 u95 u96 u97 u98 u99 u100 u101 u102 u103 u104 u105 u106 u107 u108 u109 u110 u111 u112 u113 u114 u115 u116 u117 u118 ps w6 hp6 hb6 hs6
        have B6 : Hid (Below wr.heap.size wr w6) := Lib.hid (B5.out.trans (hs6.out.below.mono B4.out.size))
        have HPL : Hid (ps.length = 22) := Lib.hid hp6.out.1
        have HPM : Hid (∀ q, q < 22 → ps.getD q 0 ≤ 1476034582) := Lib.hid fun q hq => by
          have h := hp6.out.2.2 q hq
          have h6 : 11 * muC = 1476034582 := by decide
          rw [if_neg (by omega), h6] at h
          omega
        have HPV : Hid (dv ps = (N + dv hs) * R) := Lib.hid (by
          rw [hp6.out.2.1]
          have h1 : ns.take 11 = ns := List.take_of_length_le (by rw [hp4.out.1]; omega)
          have h2 : hs.take 10 = hs := List.take_of_length_le (by rw [HHL.out]; omega)
          rw [h1, hp4.out.2.1, h2, dv_dg, dv_dg]
          have h3 : N < 8192 ^ 11 := by
            rw [HN.out]
            have h4 := numB_lt (bs ++ [1])
            have h5 : (256 : Nat) ^ (bs ++ [1]).length ≤ 256 ^ 17 := Nat.pow_le_pow_right (by decide) (by rw [List.length_append]; have := HB16.out; simp; omega)
            have h6 : (256 : Nat) ^ 17 < 8192 ^ 11 := by decide
            omega
          rw [Nat.mod_eq_of_lt h3, Nat.mod_eq_of_lt hR.out]
          simp [dv])
        have hlt20 : (ps.take 20).length = 20 := by rw [List.length_take, HPL.out]; rfl
        have RQ6 : Hid (Rq w6 (.slice (some ⟨w4.heap.size, 0, none⟩) 20 22) (ps.take 20)) := Lib.hid ⟨w4.heap.size, 22, by rw [hlt20], by rw [hlt20]; omega, by unfold maxLen; omega, hb6.out.lt, fun i hi => by
          have h := rq_cell hb6.out (i := i) (by rw [HPL.out]; omega)
          rw [h, List.getD, List.getD, List.getElem?_take, if_pos (by omega)]⟩
        have HM20 : Hid (∀ x ∈ ps.take 20, x ≤ 140737488355328) := Lib.hid fun x hx => by
          obtain ⟨q, hq, rfl⟩ := List.getElem_of_mem (List.mem_of_mem_take hx)
          have h := HPM.out q (by rw [HPL.out] at hq; exact hq)
          rw [List.getD, List.getElem?_eq_getElem hq] at h
          have h' : ps[q] ≤ 1476034582 := h
          omega
        have HL20 := Lib.hid hlt20
        clear hlt20
        go_wp2_with (fail)
        refine (even_any _ (ps.take 20) _ RQ6.out (by rw [HL20.out]; omega) HM20.out).mono ?_
        rintro e7 w7 ⟨L, low, rfl, hLs, hbl7, hll, hls, hlv, hbw7⟩
        have P7 := Lib.hid (hb6.out.below hbw7 hb6.out.lt)
        have B7 : Hid (Below wr.heap.size wr w7) := Lib.hid (B6.out.trans (hbw7.mono B6.out.size))
        have HLV := Lib.hid hlv
        have HLL := Lib.hid hll
        have HLS := Lib.hid hls
        have LL7 : Hid (wr.heap.size ≤ L) := Lib.hid (Nat.le_trans B6.out.size hLs)
        have LNE : Hid (w4.heap.size ≠ L) := Lib.hid (by have := hb6.out.lt; omega)
        obtain ⟨a0, ha0⟩ : ∃ x, x = low.getD 0 0 := ⟨_, rfl⟩
        obtain ⟨a1, ha1⟩ : ∃ x, x = low.getD 1 0 := ⟨_, rfl⟩
        obtain ⟨b0, hb0⟩ : ∃ x, x = ps.getD 20 0 := ⟨_, rfl⟩
        obtain ⟨b1, hb1⟩ : ∃ x, x = ps.getD 21 0 := ⟨_, rfl⟩
        have la0 : (a0 : Int) ≤ 8191 := by
          have : a0 < 8192 := by rw [ha0, List.getD, List.getElem?_eq_getElem (by omega)]; exact hls _ (List.getElem_mem _)
          omega
        have la1 : (a1 : Int) ≤ 8191 := by
          have : a1 < 8192 := by rw [ha1, List.getD, List.getElem?_eq_getElem (by omega)]; exact hls _ (List.getElem_mem _)
          omega
        have lb0 : (b0 : Int) ≤ 1476034582 := by have := HPM.out 20 (by omega); omega
        have lb1 : (b1 : Int) ≤ 1476034582 := by have := HPM.out 21 (by omega); omega
        have k0 := rq_cell hbl7 (i := 0) (by omega)
        have k1 := rq_cell hbl7 (i := 1) (by omega)
        have p0 := rq_cell P7.out (i := 20) (by rw [HPL.out]; omega)
        have p1 := rq_cell P7.out (i := 21) (by rw [HPL.out]; omega)
        rw [← ha0] at k0
        rw [← ha1] at k1
        rw [← hb0] at p0
        rw [← hb1] at p1
        have f0 : w7.frozen? ⟨L, 0, none⟩ = false := hbl7.free _
        have f1 : w7.frozen? ⟨L, 1, none⟩ = false := hbl7.free _
        have u0 : IntKind.u64.wrap (25 * (b0 : Int)) = 25 * (b0 : Int) := IntWalk.u64_in _ (by omega)
        have u1 : IntKind.u64.wrap ((a0 : Int) + 25 * (b0 : Int)) = (a0 : Int) + 25 * (b0 : Int) := IntWalk.u64_in _ (by clear u0; omega)
        have u2 : IntKind.u64.wrap (25 * (b1 : Int)) = 25 * (b1 : Int) := IntWalk.u64_in _ (by clear u0 u1; omega)
        have u3 : IntKind.u64.wrap ((a1 : Int) + 25 * (b1 : Int)) = (a1 : Int) + 25 * (b1 : Int) := IntWalk.u64_in _ (by clear u0 u1 u2; omega)
        have HB7 := Lib.hid hbl7
        have A0 := Lib.hid ha0
        have A1 := Lib.hid ha1
        have BB0 := Lib.hid hb0
        have BB1 := Lib.hid hb1
        clear hlv hll hls hLs hbl7 hbw7 ha0 ha1 hb0 hb1
        go_wp2_with (fail)
        go_still_tail 10, (by kernel_rfl)
        change wpList _ _ _ _ _ w7.drew
        go_wp2_with (fail)
        obtain ⟨w8, hw8⟩ : ∃ W : World, W = (w7.setCell ⟨L, 0, none⟩ (.int .u64 ((a0 : Int) + 25 * (b0 : Int)))).drew := ⟨_, rfl⟩
        have hb8 := (HB7.out.set 0 (wq (a0 + 25 * b0))).drew
        rw [← List.map_set] at hb8
        have v0 : wq (a0 + 25 * b0) = .int .u64 ((a0 : Int) + 25 * (b0 : Int)) := congrArg (Value.int .u64) (by omega)
        rw [v0, ← hw8] at hb8
        have hp8 := (P7.out.other (p := ⟨L, 0, none⟩) LNE.out (.int .u64 ((a0 : Int) + 25 * (b0 : Int)))).drew
        rw [← hw8] at hp8
        have B8 : Hid (Below wr.heap.size wr w8) := Lib.hid (by rw [hw8]; exact (B7.out.setCell (p := ⟨L, 0, none⟩) LL7.out _).drew)
        rw [← hw8]
        have m1 := rq_cell hb8 (i := 1) (by rw [List.length_set]; have := HLL.out; omega)
        rw [getD_set_ne (by omega), ← A1.out] at m1
        have n1 := rq_cell hp8 (i := 21) (by rw [HPL.out]; omega)
        rw [← BB1.out] at n1
        have g1 : w8.frozen? ⟨L, 1, none⟩ = false := hb8.free _
        have HB8 := Lib.hid hb8
        have HW8 := Lib.hid hw8
        clear k0 k1 p0 p1 f0 f1 hb8 hp8 v0 hw8 u0 u1
        go_wp2_with (fail)
        go_still_tail 10, (by kernel_rfl)
        change wpList _ _ _ _ _ w8.drew
        go_wp2_with (fail)
        obtain ⟨w9, hw9⟩ : ∃ W : World, W = (w8.setCell ⟨L, 1, none⟩ (.int .u64 ((a1 : Int) + 25 * (b1 : Int)))).drew := ⟨_, rfl⟩
        obtain ⟨lo, hlo⟩ : ∃ lo, lo = (low.set 0 (a0 + 25 * b0)).set 1 (a1 + 25 * b1) := ⟨_, rfl⟩
        have hb9 := (HB8.out.set 1 (wq (a1 + 25 * b1))).drew
        rw [← List.map_set, ← hlo] at hb9
        have v1' : wq (a1 + 25 * b1) = .int .u64 ((a1 : Int) + 25 * (b1 : Int)) := congrArg (Value.int .u64) (by omega)
        rw [v1', ← hw9] at hb9
        have B9 : Hid (Below wr.heap.size wr w9) := Lib.hid (by rw [hw9]; exact (B8.out.setCell (p := ⟨L, 1, none⟩) LL7.out _).drew)
        have LO : Hid (lo.length = 10) := Lib.hid (by rw [hlo, List.length_set, List.length_set]; exact HLL.out)
        have HB9 : Hid (Blk w9 L 39 (lo.map wq)) := Lib.hid hb9
        have RQ9 : Hid (Rq w9 (.slice (some ⟨L, 0, none⟩) 10 10) lo) := Lib.hid (by
          have h := rq_of_blk hb9 10 (by rw [LO.out]; omega) (by unfold maxLen; omega)
          rw [LO.out] at h
          exact h)
        have LM : Hid (∀ x ∈ lo, x ≤ 140737488355328) := Lib.hid fun x hx => by
          rw [hlo] at hx
          rcases List.mem_or_eq_of_mem_set hx with hx | hx
          · rcases List.mem_or_eq_of_mem_set hx with hx | hx
            · have := HLS.out x hx
              omega
            · omega
          · omega
        have LV : Hid (dv lo % p130 = (N + dv hs) * R % p130) := Lib.hid (by
          have e1 := dv_set (low.set 0 (a0 + 25 * b0)) 1 (25 * b1) (by rw [List.length_set]; have := HLL.out; omega)
          rw [getD_set_ne (by omega), ← A1.out, ← hlo] at e1
          have e2 := dv_set low 0 (25 * b0) (by have := HLL.out; omega)
          rw [← A0.out] at e2
          have e3 := low_mod (a := b0) (b := b1) HLV.out
          rw [e1, e2, Nat.pow_zero, Nat.pow_one, Nat.mul_one, e3, BB0.out, BB1.out, ← dv_22 HPL.out, HPV.out])
        rw [← hw9]
        clear m1 n1 g1 hb9 v1' hw9 hlo u2 u3
        refine (even_any _ lo _ RQ9.out (by rw [LO.out]; omega) LM.out).mono ?_
        rintro e10 w10 ⟨M, nx, rfl, hMs, hblM, hnl, hns, hnv, hbw10⟩
        have B10 : Hid (Below wr.heap.size wr w10) := Lib.hid (B9.out.trans (hbw10.mono B9.out.size))
        have RQM : Hid (Rq w10 (.slice (some ⟨M, 0, none⟩) 10 10) nx) := Lib.hid (by
          have h := rq_of_blk hblM 10 (by rw [hnl]; omega) (by unfold maxLen; omega)
          rw [hnl] at h
          exact h)
        have NL := Lib.hid hnl
        have NS := Lib.hid hns
        have NV : Hid (dv nx % p130 = polyN R m (j + 1)) := Lib.hid (by
          rw [hnv, LV.out, ← poly_step, HST.out.val, HN.out, HBS.out]
          rfl)
        clear hnl hns hnv hbw10 hMs hblM
        go_wp2_with (fail)
        go_roundw
        case rel =>
          exact ⟨j + 1, a + 16, nx, by go_num, by have := HA.out; omega, by omega, RQM.out, NL.out, NS.out, NV.out, HST.out.below.trans (B10.out.mono HST.out.below.size)⟩
        case measure => simp [intOf]; omega
      · have hcI : ¬ (m.length : Int) < (a : Int) + 16 := by omega
        have HEQ : Hid (e = a + 16) := Lib.hid (by rw [HE.out]; omega)
        have S4 := HS3.out ((a : Int) + 16) (by rw [HEQ.out]; omega)
        clear hcase
        go_wp2_with (at_builtin
                     first
                     | refine wpList_append_rd _ rfl (.tmp 59) (.tmp 67) _ rfl wr.heap.size 5 i0 _ Tryd.underlying26 hi0 hz0 hz1 hz2 rfl _ 0 [] rfl OW.out _ bs rfl R2.out ?_ ?_ ?_
                       · have := HB16.out; omega
                       · simp
                       intro v1 w1 own1 g1
                       have O1 : Hid (w1.ownsRow wr.heap.size 5 1 v1 bs.length (bs.map bv)) := Lib.hid (by simpa using own1)
                       have B1 : Hid (Below wr.heap.size wr w1) := Lib.hid (((Below.refl _ _).alloc (Nat.le_refl _) _).grown g1 (by simp) (own_ge OW.out))
                       clear own1 g1
                     | refine wpList_append_one _ _ _ rfl (.tmp 69) (.tmp 70) _ rfl wr.heap.size 5 i0 _ 1 Tryd.underlying26 hi0 hz0 hz1 hz2 rfl rfl _ bs.length _ rfl O1.out rfl ?_ ?_ B1.out.size ?_
                       · have := HB16.out; unfold maxLen; omega
                       · have := HB16.out; omega
                       intro v2 w2 own2 b2
                       have R3 : Hid (Rd w2 v2 (bs ++ [1])) := Lib.hid (Rd.of_own (by rw [List.map_append]; exact own2))
                       have B2 : Hid (Below wr.heap.size wr w2) := Lib.hid (B1.out.trans b2)
                       clear own2 b2)
        refine (digits_any v2 (bs ++ [1]) _ R3.out (by rw [List.length_append]; have := HB16.out; simp; omega)).mono ?_
        rintro e3 w3 ⟨B, rfl, hB, hblk3, hb3⟩
        obtain ⟨N, hN⟩ : ∃ N, N = numB (bs ++ [1]) := ⟨_, rfl⟩
        rw [← hN] at hblk3
        have HN := Lib.hid hN
        have HB3 := Lib.hid hblk3
        have BB : Hid (wr.heap.size ≤ B) := Lib.hid (Nat.le_trans B2.out.size hB)
        have B3 : Hid (Below wr.heap.size wr w3) := Lib.hid (B2.out.trans (hb3.mono B2.out.size))
        have Q3 := HST.out.rq.below B3.out
        obtain ⟨H, ch, hvh, hch1, hch2, hHl, hHc⟩ := Q3
        have HHlt : Hid (H < wr.heap.size) := Lib.hid (by
          obtain ⟨H', ch', hvh', _, _, hl', _⟩ := HST.out.rq
          rw [hvh'] at hvh
          injection hvh with z1 z2 z3
          injection z1 with z1
          injection z1 with z1
          omega)
        rw [HST.out.len] at hvh hch1 hHc
        subst hvh
        have HHC : Hid (∀ i, i < 10 → w3.cell? ⟨H, i, none⟩ = some (.int .u64 ((hs.getD i 0 : Nat) : Int))) := Lib.hid hHc
        have HHL := Lib.hid HST.out.len
        have HHS := Lib.hid HST.out.small
        have HAP : Hid (AdlP (dg 11 N) hs (dg 11 N) 0) := Lib.hid ⟨dg_length _ _, by simp [dv], fun q hq => by rw [dg_get 11 N hq]; have := Nat.mod_lt (N / 8192 ^ q) (show 0 < 8192 by decide); split <;> omega⟩
        have hchI : (10 : Int) ≤ ch := by omega
        unfold maxLen at hch2
        clear hblk3 hb3 hN hHc hHl
        go_wp2_with (fail)
        refine adl_loop _ _ _ _ _ _ _ _ _ _ _ _ _ _ _ _ _ _ _ _ _ _ _ _ _ _ _ _ _ _ _ _ _ _ _ _ _ _ _ _ _ _ _ _ _ _ _ _ _ _ _ _ _ _ _ _ _ _ _ _ _ _ _ _ _ _ _ _ _ _ _ _ _ _ _ _ _ _ _ _ _ _ _ _ _ _ _ _ _ _ _ _ _ _ _ _ _ _ _ _ _ _ _ _ _ _ _ _ _ _ _ _ _ _ _ _ _ _ _ _ _ _ _ _ _ _ _ _ _ _ _ _ _ _ _ _ _ _ _ _ _ _ _ _ _ _ _ _ _ _ _ _ _ _ _ _ _ _ _ _ _ _ _ _ _ _ _ _ _ _ _ _ _ _ _ _ _ _ _ _ _ _ _ _ _ _ _ _ H ch B (dg 11 N) hs w3 HHL HHS HAP (by have := HHlt.out; have := BB.out; omega) HHC HB3 (Lib.hid ?_)
        intro u13 u73 u74 u75 u76 u77 u78 u79 u80 u81 u82 u83 u84 u85 u86 u87 u88 ns w4 hp4 hb4 hs4
        have FB : Hid (∀ i, i < 11 → w4.cell? ⟨F, i, none⟩ = some (.int .u64 (((dg 11 R).getD i 0 : Nat) : Int))) := Lib.hid fun i hi => by
          have h1 := rq_cell hf.out (i := i) (by rw [dg_length]; exact hi)
          have h2 := (B3.out.cell (p := ⟨F, i, none⟩) (Nat.lt_of_lt_of_le hf.out.lt HST.out.below.size)).trans ((HST.out.below.cell (p := ⟨F, i, none⟩) hf.out.lt).trans h1)
          exact (hs4.out.cell (p := ⟨F, i, none⟩) (by have := hf.out.lt; have := HST.out.below.size; have := BB.out; show F ≠ B; omega)).trans h2
        have NB : Hid (∀ i, i < 11 → w4.cell? ⟨B, i, none⟩ = some (.int .u64 ((ns.getD i 0 : Nat) : Int))) := Lib.hid fun i hi => rq_cell hb4.out (by rw [hp4.out.1]; exact hi)
        have B4 : Hid (Below wr.heap.size wr w4) := Lib.hid (B3.out.trans (hs4.out.below.mono BB.out))
        have LB4 : Hid (B < w4.heap.size) := Lib.hid hb4.out.lt
        have LF4 : Hid (F < w4.heap.size) := Lib.hid (by have := hf.out.lt; have := HST.out.below.size; have := B4.out.size; omega)
        clear HHC HAP
        go_wp2_with (at_make
                     refine wpList_make_full _ rfl _ _ _ rfl w4.heap.size 39 i3 _ 1 Tryd.underlying69 q0 q1 q2 _ _ _ _ 22 rfl rfl ?_ ?_ ?_ ?_ (Nat.le_refl _) ?_
                     · rfl
                     · rfl
                     · rw [q3]; omega
                     · unfold maxLen; omega
                     intro w5 own5 g5
                     have hb5 := blk_of_own own5
                     rw [made_one rfl] at hb5
                     have P5 : Hid (Blk w5 w4.heap.size 39 ((List.replicate 22 0).map wq)) := Lib.hid (by rw [List.map_replicate]; exact hb5)
                     have b5 : Below w4.heap.size w4 w5 := (Below.refl _ _).grown g5 (Nat.le_refl _) (fun k h => by cases h)
                     have FB5 := Lib.hid (fun i (hi : i < 11) => (b5.cell (p := ⟨F, i, none⟩) LF4.out).trans (FB.out i hi))
                     have NB5 := Lib.hid (fun i (hi : i < 11) => (b5.cell (p := ⟨B, i, none⟩) LB4.out).trans (NB.out i hi))
                     have B5 : Hid (Below wr.heap.size wr w5) := Lib.hid (B4.out.trans (b5.mono B4.out.size))
                     clear own5 g5 hb5 b5)
        refine muo_loop _ _ _ _ _ _ _ _ _ _ _ _ _ _ _ _ _ _ _ _ _ _ _ _ _ _ _ _ _ _ _ _ _ _ _ _ _ _ _ _ _ _ _ _ _ _ _ _ _ _ _ _ _ _ _ _ _ _ _ _ _ _ _ _ _ _ _ _ _ _ _ _ _ _ _ _ _ _ _ _ _ _ _ _ _ _ _ _ _ _ _ _ _ _ _ _ _ _ _ _ _ _ _ _ _ _ _ _ _ _ _ _ _ _ _ _ _ _ _ _ _ _ _ _ _ _ _ _ _ _ _ _ _ _ _ _ _ _ _ _ _ _ _ _ _ _ _ _ _ _ _ _ _ _ _ _ _ _ _ _ _ _ _ _ _ _ _ _ _ _ _ _ _ _ _ _ _ _ _ _ _ _ _ _ _ _ _ F B w4.heap.size ns (dg 11 R) w5 (Lib.hid (dg_length _ _)) (Lib.hid hp4.out.1) (Lib.hid fun q hq => by have := hp4.out.2.2 q hq; split at this <;> omega) (Lib.hid (dg_lt 11 R)) (by have := LF4.out; omega) (by have := LB4.out; omega) FB5 NB5 P5 (Lib.hid ?_)
        intro u15 u16 u90 u91 u92 u93 u94 u95 u96 u97 u98 u99 u100 u101 u102 u103 u104 u105 u106 u107 u108 u109 u110 u111 u112 u113 u114 u115 u116 u117 u118 ps w6 hp6 hb6 hs6
        have B6 : Hid (Below wr.heap.size wr w6) := Lib.hid (B5.out.trans (hs6.out.below.mono B4.out.size))
        have HPL : Hid (ps.length = 22) := Lib.hid hp6.out.1
        have HPM : Hid (∀ q, q < 22 → ps.getD q 0 ≤ 1476034582) := Lib.hid fun q hq => by
          have h := hp6.out.2.2 q hq
          have h6 : 11 * muC = 1476034582 := by decide
          rw [if_neg (by omega), h6] at h
          omega
        have HPV : Hid (dv ps = (N + dv hs) * R) := Lib.hid (by
          rw [hp6.out.2.1]
          have h1 : ns.take 11 = ns := List.take_of_length_le (by rw [hp4.out.1]; omega)
          have h2 : hs.take 10 = hs := List.take_of_length_le (by rw [HHL.out]; omega)
          rw [h1, hp4.out.2.1, h2, dv_dg, dv_dg]
          have h3 : N < 8192 ^ 11 := by
            rw [HN.out]
            have h4 := numB_lt (bs ++ [1])
            have h5 : (256 : Nat) ^ (bs ++ [1]).length ≤ 256 ^ 17 := Nat.pow_le_pow_right (by decide) (by rw [List.length_append]; have := HB16.out; simp; omega)
            have h6 : (256 : Nat) ^ 17 < 8192 ^ 11 := by decide
            omega
          rw [Nat.mod_eq_of_lt h3, Nat.mod_eq_of_lt hR.out]
          simp [dv])
        have hlt20 : (ps.take 20).length = 20 := by rw [List.length_take, HPL.out]; rfl
        have RQ6 : Hid (Rq w6 (.slice (some ⟨w4.heap.size, 0, none⟩) 20 22) (ps.take 20)) := Lib.hid ⟨w4.heap.size, 22, by rw [hlt20], by rw [hlt20]; omega, by unfold maxLen; omega, hb6.out.lt, fun i hi => by
          have h := rq_cell hb6.out (i := i) (by rw [HPL.out]; omega)
          rw [h, List.getD, List.getD, List.getElem?_take, if_pos (by omega)]⟩
        have HM20 : Hid (∀ x ∈ ps.take 20, x ≤ 140737488355328) := Lib.hid fun x hx => by
          obtain ⟨q, hq, rfl⟩ := List.getElem_of_mem (List.mem_of_mem_take hx)
          have h := HPM.out q (by rw [HPL.out] at hq; exact hq)
          rw [List.getD, List.getElem?_eq_getElem hq] at h
          have h' : ps[q] ≤ 1476034582 := h
          omega
        have HL20 := Lib.hid hlt20
        clear hlt20
        go_wp2_with (fail)
        refine (even_any _ (ps.take 20) _ RQ6.out (by rw [HL20.out]; omega) HM20.out).mono ?_
        rintro e7 w7 ⟨L, low, rfl, hLs, hbl7, hll, hls, hlv, hbw7⟩
        have P7 := Lib.hid (hb6.out.below hbw7 hb6.out.lt)
        have B7 : Hid (Below wr.heap.size wr w7) := Lib.hid (B6.out.trans (hbw7.mono B6.out.size))
        have HLV := Lib.hid hlv
        have HLL := Lib.hid hll
        have HLS := Lib.hid hls
        have LL7 : Hid (wr.heap.size ≤ L) := Lib.hid (Nat.le_trans B6.out.size hLs)
        have LNE : Hid (w4.heap.size ≠ L) := Lib.hid (by have := hb6.out.lt; omega)
        obtain ⟨a0, ha0⟩ : ∃ x, x = low.getD 0 0 := ⟨_, rfl⟩
        obtain ⟨a1, ha1⟩ : ∃ x, x = low.getD 1 0 := ⟨_, rfl⟩
        obtain ⟨b0, hb0⟩ : ∃ x, x = ps.getD 20 0 := ⟨_, rfl⟩
        obtain ⟨b1, hb1⟩ : ∃ x, x = ps.getD 21 0 := ⟨_, rfl⟩
        have la0 : (a0 : Int) ≤ 8191 := by
          have : a0 < 8192 := by rw [ha0, List.getD, List.getElem?_eq_getElem (by omega)]; exact hls _ (List.getElem_mem _)
          omega
        have la1 : (a1 : Int) ≤ 8191 := by
          have : a1 < 8192 := by rw [ha1, List.getD, List.getElem?_eq_getElem (by omega)]; exact hls _ (List.getElem_mem _)
          omega
        have lb0 : (b0 : Int) ≤ 1476034582 := by have := HPM.out 20 (by omega); omega
        have lb1 : (b1 : Int) ≤ 1476034582 := by have := HPM.out 21 (by omega); omega
        have k0 := rq_cell hbl7 (i := 0) (by omega)
        have k1 := rq_cell hbl7 (i := 1) (by omega)
        have p0 := rq_cell P7.out (i := 20) (by rw [HPL.out]; omega)
        have p1 := rq_cell P7.out (i := 21) (by rw [HPL.out]; omega)
        rw [← ha0] at k0
        rw [← ha1] at k1
        rw [← hb0] at p0
        rw [← hb1] at p1
        have f0 : w7.frozen? ⟨L, 0, none⟩ = false := hbl7.free _
        have f1 : w7.frozen? ⟨L, 1, none⟩ = false := hbl7.free _
        have u0 : IntKind.u64.wrap (25 * (b0 : Int)) = 25 * (b0 : Int) := IntWalk.u64_in _ (by omega)
        have u1 : IntKind.u64.wrap ((a0 : Int) + 25 * (b0 : Int)) = (a0 : Int) + 25 * (b0 : Int) := IntWalk.u64_in _ (by clear u0; omega)
        have u2 : IntKind.u64.wrap (25 * (b1 : Int)) = 25 * (b1 : Int) := IntWalk.u64_in _ (by clear u0 u1; omega)
        have u3 : IntKind.u64.wrap ((a1 : Int) + 25 * (b1 : Int)) = (a1 : Int) + 25 * (b1 : Int) := IntWalk.u64_in _ (by clear u0 u1 u2; omega)
        have HB7 := Lib.hid hbl7
        have A0 := Lib.hid ha0
        have A1 := Lib.hid ha1
        have BB0 := Lib.hid hb0
        have BB1 := Lib.hid hb1
        clear hlv hll hls hLs hbl7 hbw7 ha0 ha1 hb0 hb1
        go_wp2_with (fail)
        go_still_tail 10, (by kernel_rfl)
        change wpList _ _ _ _ _ w7.drew
        go_wp2_with (fail)
        obtain ⟨w8, hw8⟩ : ∃ W : World, W = (w7.setCell ⟨L, 0, none⟩ (.int .u64 ((a0 : Int) + 25 * (b0 : Int)))).drew := ⟨_, rfl⟩
        have hb8 := (HB7.out.set 0 (wq (a0 + 25 * b0))).drew
        rw [← List.map_set] at hb8
        have v0 : wq (a0 + 25 * b0) = .int .u64 ((a0 : Int) + 25 * (b0 : Int)) := congrArg (Value.int .u64) (by omega)
        rw [v0, ← hw8] at hb8
        have hp8 := (P7.out.other (p := ⟨L, 0, none⟩) LNE.out (.int .u64 ((a0 : Int) + 25 * (b0 : Int)))).drew
        rw [← hw8] at hp8
        have B8 : Hid (Below wr.heap.size wr w8) := Lib.hid (by rw [hw8]; exact (B7.out.setCell (p := ⟨L, 0, none⟩) LL7.out _).drew)
        rw [← hw8]
        have m1 := rq_cell hb8 (i := 1) (by rw [List.length_set]; have := HLL.out; omega)
        rw [getD_set_ne (by omega), ← A1.out] at m1
        have n1 := rq_cell hp8 (i := 21) (by rw [HPL.out]; omega)
        rw [← BB1.out] at n1
        have g1 : w8.frozen? ⟨L, 1, none⟩ = false := hb8.free _
        have HB8 := Lib.hid hb8
        have HW8 := Lib.hid hw8
        clear k0 k1 p0 p1 f0 f1 hb8 hp8 v0 hw8 u0 u1
        go_wp2_with (fail)
        go_still_tail 10, (by kernel_rfl)
        change wpList _ _ _ _ _ w8.drew
        go_wp2_with (fail)
        obtain ⟨w9, hw9⟩ : ∃ W : World, W = (w8.setCell ⟨L, 1, none⟩ (.int .u64 ((a1 : Int) + 25 * (b1 : Int)))).drew := ⟨_, rfl⟩
        obtain ⟨lo, hlo⟩ : ∃ lo, lo = (low.set 0 (a0 + 25 * b0)).set 1 (a1 + 25 * b1) := ⟨_, rfl⟩
        have hb9 := (HB8.out.set 1 (wq (a1 + 25 * b1))).drew
        rw [← List.map_set, ← hlo] at hb9
        have v1' : wq (a1 + 25 * b1) = .int .u64 ((a1 : Int) + 25 * (b1 : Int)) := congrArg (Value.int .u64) (by omega)
        rw [v1', ← hw9] at hb9
        have B9 : Hid (Below wr.heap.size wr w9) := Lib.hid (by rw [hw9]; exact (B8.out.setCell (p := ⟨L, 1, none⟩) LL7.out _).drew)
        have LO : Hid (lo.length = 10) := Lib.hid (by rw [hlo, List.length_set, List.length_set]; exact HLL.out)
        have HB9 : Hid (Blk w9 L 39 (lo.map wq)) := Lib.hid hb9
        have RQ9 : Hid (Rq w9 (.slice (some ⟨L, 0, none⟩) 10 10) lo) := Lib.hid (by
          have h := rq_of_blk hb9 10 (by rw [LO.out]; omega) (by unfold maxLen; omega)
          rw [LO.out] at h
          exact h)
        have LM : Hid (∀ x ∈ lo, x ≤ 140737488355328) := Lib.hid fun x hx => by
          rw [hlo] at hx
          rcases List.mem_or_eq_of_mem_set hx with hx | hx
          · rcases List.mem_or_eq_of_mem_set hx with hx | hx
            · have := HLS.out x hx
              omega
            · omega
          · omega
        have LV : Hid (dv lo % p130 = (N + dv hs) * R % p130) := Lib.hid (by
          have e1 := dv_set (low.set 0 (a0 + 25 * b0)) 1 (25 * b1) (by rw [List.length_set]; have := HLL.out; omega)
          rw [getD_set_ne (by omega), ← A1.out, ← hlo] at e1
          have e2 := dv_set low 0 (25 * b0) (by have := HLL.out; omega)
          rw [← A0.out] at e2
          have e3 := low_mod (a := b0) (b := b1) HLV.out
          rw [e1, e2, Nat.pow_zero, Nat.pow_one, Nat.mul_one, e3, BB0.out, BB1.out, ← dv_22 HPL.out, HPV.out])
        rw [← hw9]
        clear m1 n1 g1 hb9 v1' hw9 hlo u2 u3
        refine (even_any _ lo _ RQ9.out (by rw [LO.out]; omega) LM.out).mono ?_
        rintro e10 w10 ⟨M, nx, rfl, hMs, hblM, hnl, hns, hnv, hbw10⟩
        have B10 : Hid (Below wr.heap.size wr w10) := Lib.hid (B9.out.trans (hbw10.mono B9.out.size))
        have RQM : Hid (Rq w10 (.slice (some ⟨M, 0, none⟩) 10 10) nx) := Lib.hid (by
          have h := rq_of_blk hblM 10 (by rw [hnl]; omega) (by unfold maxLen; omega)
          rw [hnl] at h
          exact h)
        have NL := Lib.hid hnl
        have NS := Lib.hid hns
        have NV : Hid (dv nx % p130 = polyN R m (j + 1)) := Lib.hid (by
          rw [hnv, LV.out, ← poly_step, HST.out.val, HN.out, HBS.out]
          rfl)
        clear hnl hns hnv hbw10 hMs hblM
        go_wp2_with (fail)
        go_roundw
        case rel =>
          exact ⟨j + 1, a + 16, nx, by go_num, by have := HA.out; omega, by omega, RQM.out, NL.out, NS.out, NV.out, HST.out.below.trans (B10.out.mono HST.out.below.size)⟩
        case measure => simp [intOf]; omega
    · have ej : j = blksN m := by unfold blksN; omega
      rw [ej] at st
      have HST := Lib.hid st
      clear st ej
      go_wp2_with (fail)
      exact HQ.out _ _ _ _ _ _ _ _ _ _ _ _ _ _ _ _ _ _ _ _ _ _ _ _ _ _ _ _ _ _ _ _ _ _ _ _ _ _ _ _ _ _ _ _ _ _ _ _ _ _ _ _ _ _ _ _ _ _ _ _ _ _ _ _ _ _ _ _ _ _ _ _ _ _ _ _ _ _ _ _ _ _ _ _ _ _ _ _ _ _ _ _ _ _ _ _ _ _ _ _ hs _ HST
end Go.Proofs.YtmoffodmbbkolaaDoor
