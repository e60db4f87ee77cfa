/- The fifth reference's Tag: the loop that clamps the key's first half. Condition: a key of 32 bytes. -/
import Derived.Test.YtlcpplnajaldgaaPolMath
import Derived.Test.YtlcpplnajaldgaaW64
namespace Go.Proofs.Ytlcpplnajaldgaa
open Go.RowKit

theorem rB_length {k : List UInt8} (h : k.length = 32) : (rB k).length = 16 := by simp [rB, h]
theorem rB_succ {k : List UInt8} {i : Nat} {c : UInt8} (h : k.length = 32) (hi : i < 16) (hc : k[i]? = some c) : (rB k).take (i + 1) = (rB k).take i ++ [clampC i c] := by
  rw [List.take_succ_eq_append_getElem (by rw [rB_length h]; exact hi)]
  congr 2
  unfold rB
  rw [List.getElem_mapIdx, List.getElem_take]
  rw [List.getElem?_eq_getElem (by omega)] at hc
  rw [Option.some.inj hc]
theorem clampC_a {i : Nat} (c : UInt8) (h : i % 4 = 3) : Value.int .u8 ((c.toNat : Int) % 16) = bv (clampC i c) := by
  unfold bv clampC
  rw [if_pos h, UInt8.toNat_mod]
  exact congrArg (Value.int .u8) (by simp)
theorem clampC_b {i : Nat} (c : UInt8) (h : i % 4 = 0) (h0 : 0 < i) : Value.int .u8 ((c.toNat : Int) / 4 * 4) = bv (clampC i c) := by
  have hc := c.toNat_lt
  unfold bv clampC
  rw [if_neg (by omega), if_pos ⟨h, h0⟩, UInt8.toNat_mul, UInt8.toNat_div]
  refine congrArg (Value.int .u8) ?_
  have e : (4 : UInt8).toNat = 4 := rfl
  rw [e]
  omega
theorem clampC_c {i : Nat} (c : UInt8) (h3 : ¬ i % 4 = 3) (h : ¬ (i % 4 = 0 ∧ 0 < i)) : Value.int .u8 (c.toNat : Int) = bv (clampC i c) := by
  unfold bv clampC
  rw [if_neg h3, if_neg h]
def ClmRel (w : World) (k : List UInt8) (rv v : Value) (W : World) : Prop := ∃ i : Nat, v = .int .i64 (i : Int) ∧ i ≤ 16 ∧ W.ownsRow w.heap.size 5 1 rv i (((rB k).take i).map bv) ∧ Below w.heap.size w W
theorem clm_rel {w wr w' : World} {k : List UInt8} {i : Nat} {c : UInt8} {z : Int} {rv : Value} (hk : k.length = 32) (hi : i < 16) (hc : k[i]? = some c) (hz : Value.int .u8 z = bv (clampC i c)) (bl : Below w.heap.size w wr) (ho : w'.ownsRow w.heap.size 5 1 rv (i + 1) (((rB k).take i).map bv ++ [.int .u8 z])) (hb : Below w.heap.size wr w') : ClmRel w k rv (.int .i64 ((i : Int) + 1)) w' := by
  refine ⟨i + 1, by go_num, by omega, ?_, bl.trans hb⟩
  rw [rB_succ hk hi hc, List.map_append]
  rw [hz] at ho
  exact ho
noncomputable def body_clm : Code := (((Try.f11.body.map loopsOf).getD [])[0]?).getD .skip
set_option maxRecDepth 100000 in
set_option maxHeartbeats 2000000 in
theorem clm_loop (c0 c1 c3 c4 c7 c8 c9 c10 c11 c12 c13 c14 c15 c16 c17 c18 c19 c20 c21 c22 c23 c24 c25 c26 c27 c28 c29 c30 c31 c32 c33 c34 c35 c36 c37 c38 c39 c40 c41 c42 c43 c44 c45 c46 c47 c48 c49 c50 c51 c52 c53 c54 c55 c56 c57 c58 c59 c60 c61 c62 c63 c64 c65 c66 c67 c68 c69 c70 c71 c72 c73 c74 c75 c76 c77 c78 c79 c80 c81 c82 c83 c84 c85 c86 c87 c88 c89 c90 c91 c92 c93 c94 c95 c96 c97 c98 c99 c100 c101 c102 c103 c104 c105 c106 c107 c108 c109 c110 c111 c112 c113 c114 c115 c116 c117 c118 c119 c120 c121 c122 c123 c124 c125 c126 c127 c128 c129 c130 c131 c132 c133 c134 c135 c136 c137 c138 c139 c140 c141 c142 c143 c144 c145 c146 c147 c148 c149 c150 c151 c152 c153 c154 c155 c156 c157 c158 c159 c160 c161 c162 c163 c164 c165 c166 c167 c168 c169 c170 c171 c172 c173 c174 c175 c176 c177 c178 c179 c180 c181 c182 c183 c184 c185 c186 c187 c188 c189 c190 : Value) (KB : Nat) (T : TypeId) (k : List UInt8) (w : World) (hk : Hid (k.length = 32)) (hkb : Hid (Blk w KB T (k.map bv))) {Q : Exit → Act → World → Prop}
    (HQ : Hid (∀ (u6 u7 u24 u25 u26 u27 u28 u29 u30 u31 u32 u33 u34 u35 u36 u37 u38 u39 u40 u41 u42 u43 u44 u45 u46 u47 u48 u49 rv : Value) (wx : World), Hid (wx.ownsRow w.heap.size 5 1 rv 16 ((rB k).map bv)) → Hid (Below w.heap.size w wx) → Q (.exit 0) ⟨List.toArray (c0 :: c1 :: (.pointer (some ⟨KB, 0, none⟩)) :: c3 :: c4 :: rv :: u6 :: u7 :: c8 :: c9 :: c10 :: c11 :: c12 :: c13 :: c14 :: c15 :: c16 :: c17 :: c18 :: c19 :: c20 :: c21 :: c22 :: c23 :: u24 :: u25 :: u26 :: u27 :: u28 :: u29 :: u30 :: u31 :: u32 :: u33 :: u34 :: u35 :: u36 :: u37 :: u38 :: u39 :: u40 :: u41 :: u42 :: u43 :: u44 :: u45 :: u46 :: u47 :: u48 :: u49 :: c50 :: c51 :: c52 :: c53 :: c54 :: c55 :: c56 :: c57 :: c58 :: c59 :: c60 :: c61 :: c62 :: c63 :: c64 :: c65 :: c66 :: c67 :: c68 :: c69 :: c70 :: c71 :: c72 :: c73 :: c74 :: c75 :: c76 :: c77 :: c78 :: c79 :: c80 :: c81 :: c82 :: c83 :: c84 :: c85 :: c86 :: c87 :: c88 :: c89 :: c90 :: c91 :: c92 :: c93 :: c94 :: c95 :: c96 :: c97 :: c98 :: c99 :: c100 :: c101 :: c102 :: c103 :: c104 :: c105 :: c106 :: c107 :: c108 :: c109 :: c110 :: c111 :: c112 :: c113 :: c114 :: c115 :: c116 :: c117 :: c118 :: c119 :: c120 :: c121 :: c122 :: c123 :: c124 :: c125 :: c126 :: c127 :: c128 :: c129 :: c130 :: c131 :: c132 :: c133 :: c134 :: c135 :: c136 :: c137 :: c138 :: c139 :: c140 :: c141 :: c142 :: c143 :: c144 :: c145 :: c146 :: c147 :: c148 :: c149 :: c150 :: c151 :: c152 :: c153 :: c154 :: c155 :: c156 :: c157 :: c158 :: c159 :: c160 :: c161 :: c162 :: c163 :: c164 :: c165 :: c166 :: c167 :: c168 :: c169 :: c170 :: c171 :: c172 :: c173 :: c174 :: c175 :: c176 :: c177 :: c178 :: c179 :: c180 :: c181 :: c182 :: c183 :: c184 :: c185 :: c186 :: c187 :: c188 :: c189 :: c190 :: []), []⟩ wx)) :
    (Code.loop body_clm).wp Try.prog Q ⟨List.toArray (c0 :: c1 :: (.pointer (some ⟨KB, 0, none⟩)) :: c3 :: c4 :: (.slice none 0 0) :: (.int .i64 0) :: c7 :: c8 :: c9 :: c10 :: c11 :: c12 :: c13 :: c14 :: c15 :: c16 :: c17 :: c18 :: c19 :: c20 :: c21 :: c22 :: c23 :: c24 :: c25 :: c26 :: c27 :: c28 :: c29 :: c30 :: c31 :: c32 :: c33 :: c34 :: c35 :: c36 :: c37 :: c38 :: c39 :: c40 :: c41 :: c42 :: c43 :: c44 :: c45 :: c46 :: c47 :: c48 :: c49 :: c50 :: c51 :: c52 :: c53 :: c54 :: c55 :: c56 :: c57 :: c58 :: c59 :: c60 :: c61 :: c62 :: c63 :: c64 :: c65 :: c66 :: c67 :: c68 :: c69 :: c70 :: c71 :: c72 :: c73 :: c74 :: c75 :: c76 :: c77 :: c78 :: c79 :: c80 :: c81 :: c82 :: c83 :: c84 :: c85 :: c86 :: c87 :: c88 :: c89 :: c90 :: c91 :: c92 :: c93 :: c94 :: c95 :: c96 :: c97 :: c98 :: c99 :: c100 :: c101 :: c102 :: c103 :: c104 :: c105 :: c106 :: c107 :: c108 :: c109 :: c110 :: c111 :: c112 :: c113 :: c114 :: c115 :: c116 :: c117 :: c118 :: c119 :: c120 :: c121 :: c122 :: c123 :: c124 :: c125 :: c126 :: c127 :: c128 :: c129 :: c130 :: c131 :: c132 :: c133 :: c134 :: c135 :: c136 :: c137 :: c138 :: c139 :: c140 :: c141 :: c142 :: c143 :: c144 :: c145 :: c146 :: c147 :: c148 :: c149 :: c150 :: c151 :: c152 :: c153 :: c154 :: c155 :: c156 :: c157 :: c158 :: c159 :: c160 :: c161 :: c162 :: c163 :: c164 :: c165 :: c166 :: c167 :: c168 :: c169 :: c170 :: c171 :: c172 :: c173 :: c174 :: c175 :: c176 :: c177 :: c178 :: c179 :: c180 :: c181 :: c182 :: c183 :: c184 :: c185 :: c186 :: c187 :: c188 :: c189 :: c190 :: []), []⟩ w := by
  obtain ⟨i0, hi0, hz0, hz1, hz2⟩ := info_parts info_u8
  unfold body_clm
  conv => arg 2; arg 1; whnf
  go_loopw [5, 6] (fun rv v wx => ClmRel w k rv v wx) (fun _ v _ => 16 - (intOf v).toNat)
  case atStart => exact ⟨0, rfl, by omega, World.ownsRow_nil _ _ _ _, Below.refl _ _⟩
  case round =>
    obtain ⟨i, rfl, hi, own, bl⟩ := hrel
    by_cases hlt : i < 16
    · have hI : (i : Int) < 16 := by omega
      have hI32 : (i : Int) < 32 := by omega
      have qs : w.heap.size ≤ wr.heap.size := bl.size
      have qm : Hid (i + 1 ≤ maxLen) := by show i + 1 ≤ maxLen; unfold maxLen; omega
      have qb : Hid ((i + 1) * 1 ≤ 140737488355328) := by show (i + 1) * 1 ≤ 140737488355328; omega
      obtain ⟨c, hc⟩ : ∃ c, k[i]? = some c := ⟨_, List.getElem?_eq_getElem (by rw [hk.out]; omega)⟩
      have cc : wr.cell? ⟨KB, i, none⟩ = some (.int .u8 (c.toNat : Int)) := by
        rw [(hkb.out.below bl hkb.out.lt).cell i, List.getElem?_map, hc]
        rfl
      have cI : (c.toNat : Int) ≤ 255 := by have := c.toNat_lt; omega
      have HC := Lib.hid hc
      have HO := Lib.hid own
      have HBL := Lib.hid bl
      by_cases h3 : i % 4 = 3
      · have e3 : (((i : Int) % 4) == 3) = true := by rw [beq_iff_eq]; omega
        have e0 : (((i : Int) % 4) == 0) = false := by rw [beq_eq_false_iff_ne]; omega
        have HZ := Lib.hid (clampC_a c h3)
        clear hc own bl hi h3
        go_wp2_with (at_builtin
                     refine wpList_append_one _ _ _ rfl _ _ _ rfl w.heap.size 5 i0 _ 1 Try.underlying24 hi0 hz0 hz1 hz2 rfl rfl _ i _ rfl HO.out rfl qm.out qb.out qs ?_
                     intro v2 w2 own2 b2)
        go_roundw
        case rel => exact clm_rel hk.out hlt HC.out HZ.out HBL.out own2 b2
        case measure => simp [intOf]; omega
      · have e3 : (((i : Int) % 4) == 3) = false := by rw [beq_eq_false_iff_ne]; omega
        by_cases h0 : i % 4 = 0
        · have e0 : (((i : Int) % 4) == 0) = true := by rw [beq_iff_eq]; omega
          by_cases hp : 0 < i
          · have hpI : (0 : Int) < (i : Int) := by omega
            have HZ := Lib.hid (clampC_b c h0 hp)
            clear hc own bl hi h3 h0 hp
            go_wp2_with (at_builtin
                         refine wpList_append_one _ _ _ rfl _ _ _ rfl w.heap.size 5 i0 _ 1 Try.underlying24 hi0 hz0 hz1 hz2 rfl rfl _ i _ rfl HO.out rfl qm.out qb.out qs ?_
                         intro v2 w2 own2 b2)
            go_roundw
            case rel => exact clm_rel hk.out hlt HC.out HZ.out HBL.out own2 b2
            case measure => simp [intOf]; omega
          · have hpI : ¬ (0 : Int) < (i : Int) := by omega
            have HZ := Lib.hid (clampC_c c h3 (fun h => hp h.2))
            clear hc own bl hi h3 h0 hp
            go_wp2_with (at_builtin
                         refine wpList_append_one _ _ _ rfl _ _ _ rfl w.heap.size 5 i0 _ 1 Try.underlying24 hi0 hz0 hz1 hz2 rfl rfl _ i _ rfl HO.out rfl qm.out qb.out qs ?_
                         intro v2 w2 own2 b2)
            go_roundw
            case rel => exact clm_rel hk.out hlt HC.out HZ.out HBL.out own2 b2
            case measure => simp [intOf]; omega
        · have e0 : (((i : Int) % 4) == 0) = false := by rw [beq_eq_false_iff_ne]; omega
          have HZ := Lib.hid (clampC_c c h3 (fun h => h0 h.1))
          clear hc own bl hi h3 h0
          go_wp2_with (at_builtin
                       refine wpList_append_one _ _ _ rfl _ _ _ rfl w.heap.size 5 i0 _ 1 Try.underlying24 hi0 hz0 hz1 hz2 rfl rfl _ i _ rfl HO.out rfl qm.out qb.out qs ?_
                       intro v2 w2 own2 b2)
          go_roundw
          case rel => exact clm_rel hk.out hlt HC.out HZ.out HBL.out own2 b2
          case measure => simp [intOf]; omega
    · obtain rfl : i = 16 := by omega
      have HO : Hid (wr.ownsRow w.heap.size 5 1 u5 16 ((rB k).map bv)) := Lib.hid (by
        rw [List.take_of_length_le (by rw [rB_length hk.out]; omega)] at own
        exact own)
      have HBL := Lib.hid bl
      clear own bl
      go_wp2_with (fail)
      exact HQ.out _ _ _ _ _ _ _ _ _ _ _ _ _ _ _ _ _ _ _ _ _ _ _ _ _ _ _ _ _ _ HO HBL
end Go.Proofs.Ytlcpplnajaldgaa
