/- The loop of 'ShamirSums' (law 8) that lays three rows of shares. Conditions: at most 8 keys, as many of the others. -/
import Derived.Test.YtpegnafapjcanaaWSUA
import Derived.Test.YtpegnafapjcanaaRfl
import Derived.Deep.Cut
namespace Go.Proofs.Ytpegnafapjcanaa.shamirSums
open Go.RowKit

def SuaRel (L M : List (List UInt8)) (n : Nat) (w : World) (va vb vc v : Value) (W : World) : Prop :=
  ∃ i : Nat, v = .int .i64 (i : Int) ∧ i ≤ n ∧ OwnF 33 W w.heap.size 31 va (shA L i) ∧ OwnF 33 W w.heap.size 31 vb (shA M i) ∧ OwnF 33 W w.heap.size 31 vc (shC L M i) ∧ Apart2 va vb ∧ Apart2 va vc ∧ Apart2 vb vc ∧ Below w.heap.size w W
theorem next_blk {w w' : World} {base S : Nat} {v v' : Value} {t : TypeId} {cs : List Value} (h : Next w w' base v v') (hb : Blk w S t cs) (hne : v.ownBlock ≠ some S) : Blk w' S t cs := (h.heap S hb.lt (fun e => hne e.symm)).trans hb
theorem own_max {n m _b : Nat} (h : n ≤ 8) (hm : m = n) : m + 1 ≤ maxLen ∧ (m + 1) * 33 ≤ 140737488355328 := by unfold maxLen; omega
noncomputable def body_sua : Code := (((Try.f7.body.map loopsOf).getD [])[0]?).getD .skip
set_option maxRecDepth 100000 in
set_option maxHeartbeats 4000000 in
theorem sua_loop (c2 c3 c4 c9 c10 c11 c12 c13 c14 c15 c16 c17 c18 c19 c20 c21 c22 c23 c24 c25 c26 c27 c28 c29 c30 c31 c32 c33 c34 c35 c36 c37 c38 c39 c40 c41 c42 c43 c44 c45 c46 c47 c48 c49 c50 c51 c52 c53 c54 c55 c56 c57 c58 c59 c60 c61 c62 c63 c64 c65 c66 c67 c68 c69 c70 c71 c72 c73 c74 c75 c76 c77 c78 c79 c80 c81 c82 c83 c84 c85 c86 c87 c88 c89 c90 c91 c92 c93 c94 c95 c96 c97 c98 c99 c100 c101 c102 c103 c104 c105 c106 c107 c108 c109 c110 c111 c112 c113 c114 c115 c116 c117 c118 c119 c120 c121 c122 c123 c124 c125 c126 c127 c128 c129 c130 c131 : Value) (L M : List (List UInt8)) (b o b2 o2 cl cm : Nat) (w : World) (h8 : L.length ≤ 8) (hm : L.length ≤ M.length) (hmm : M.length ≤ maxLen)
    (hL : Hid (Rf 32 w (.slice (some ⟨b, o, none⟩) L.length cl) L)) (hM : Hid (Rf 32 w (.slice (some ⟨b2, o2, none⟩) M.length cm) M))
    (hcL : Hid (∀ W, Below w.heap.size w W → ∀ i j, i < L.length → j < 32 → W.cell? ⟨b, o + i * 32 + j, none⟩ = some (bv ((L.getD i []).getD j 0))))
    (hcM : Hid (∀ W, Below w.heap.size w W → ∀ i j, i < M.length → j < 32 → W.cell? ⟨b2, o2 + i * 32 + j, none⟩ = some (bv ((M.getD i []).getD j 0)))) (hbl : Hid (b < w.heap.size ∧ b2 < w.heap.size)) {Q : Exit → Act → World → Prop}
    (HQ : Hid (∀ (u8 u9 u10 u11 u35 u36 u37 u38 u39 u40 u41 u42 u43 u44 u45 u46 u47 u48 u49 u50 u51 u52 u53 u54 u55 u56 u57 u58 u59 u60 u61 u62 u63 u64 u65 u66 u67 u68 u69 u70 u71 u72 u73 u74 u75 u76 u77 u78 u79 u80 u81 u82 u83 u84 u85 u86 u87 u88 va vb vc : Value) (wx : World), Hid (OwnF 33 wx w.heap.size 31 va (shA L L.length)) → Hid (OwnF 33 wx w.heap.size 31 vb (shA M L.length)) → Hid (OwnF 33 wx w.heap.size 31 vc (shC L M L.length)) → Hid (Below w.heap.size w wx) → Q (.exit 0) ⟨List.toArray ((.slice (some ⟨b, o, none⟩) L.length cl) :: (.slice (some ⟨b2, o2, none⟩) M.length cm) :: c2 :: c3 :: c4 :: va :: vb :: vc :: u8 :: u9 :: u10 :: u11 :: c12 :: c13 :: c14 :: c15 :: c16 :: c17 :: c18 :: c19 :: c20 :: c21 :: c22 :: c23 :: c24 :: c25 :: c26 :: c27 :: c28 :: c29 :: c30 :: c31 :: c32 :: c33 :: c34 :: u35 :: u36 :: u37 :: u38 :: u39 :: u40 :: u41 :: u42 :: u43 :: u44 :: u45 :: u46 :: u47 :: u48 :: u49 :: u50 :: u51 :: u52 :: u53 :: u54 :: u55 :: u56 :: u57 :: u58 :: u59 :: u60 :: u61 :: u62 :: u63 :: u64 :: u65 :: u66 :: u67 :: u68 :: u69 :: u70 :: u71 :: u72 :: u73 :: u74 :: u75 :: u76 :: u77 :: u78 :: u79 :: u80 :: u81 :: u82 :: u83 :: u84 :: u85 :: u86 :: u87 :: u88 :: c89 :: c90 :: c91 :: c92 :: c93 :: c94 :: c95 :: c96 :: c97 :: c98 :: c99 :: c100 :: c101 :: c102 :: c103 :: c104 :: c105 :: c106 :: c107 :: c108 :: c109 :: c110 :: c111 :: c112 :: c113 :: c114 :: c115 :: c116 :: c117 :: c118 :: c119 :: c120 :: c121 :: c122 :: c123 :: c124 :: c125 :: c126 :: c127 :: c128 :: c129 :: c130 :: c131 :: []), []⟩ wx)) :
    (Code.loop body_sua).wp Try.prog Q ⟨List.toArray ((.slice (some ⟨b, o, none⟩) L.length cl) :: (.slice (some ⟨b2, o2, none⟩) M.length cm) :: c2 :: c3 :: c4 :: (.slice none 0 0) :: (.slice none 0 0) :: (.slice none 0 0) :: (.int .i64 0) :: c9 :: c10 :: c11 :: c12 :: c13 :: c14 :: c15 :: c16 :: c17 :: c18 :: c19 :: c20 :: c21 :: c22 :: c23 :: c24 :: c25 :: c26 :: c27 :: c28 :: c29 :: c30 :: c31 :: c32 :: c33 :: c34 :: c35 :: c36 :: c37 :: c38 :: c39 :: c40 :: c41 :: c42 :: c43 :: c44 :: c45 :: c46 :: c47 :: c48 :: c49 :: c50 :: c51 :: c52 :: c53 :: c54 :: c55 :: c56 :: c57 :: c58 :: c59 :: c60 :: c61 :: c62 :: c63 :: c64 :: c65 :: c66 :: c67 :: c68 :: c69 :: c70 :: c71 :: c72 :: c73 :: c74 :: c75 :: c76 :: c77 :: c78 :: c79 :: c80 :: c81 :: c82 :: c83 :: c84 :: c85 :: c86 :: c87 :: c88 :: c89 :: c90 :: c91 :: c92 :: c93 :: c94 :: c95 :: c96 :: c97 :: c98 :: c99 :: c100 :: c101 :: c102 :: c103 :: c104 :: c105 :: c106 :: c107 :: c108 :: c109 :: c110 :: c111 :: c112 :: c113 :: c114 :: c115 :: c116 :: c117 :: c118 :: c119 :: c120 :: c121 :: c122 :: c123 :: c124 :: c125 :: c126 :: c127 :: c128 :: c129 :: c130 :: c131 :: []), []⟩ w := by
  obtain ⟨ish, his, hisz, hiss, hisb⟩ := info_of info_share
  unfold maxLen at hmm
  have nI : (L.length : Int) ≤ 8 := by omega
  have mI : (L.length : Int) ≤ M.length := by omega
  have mmI : (M.length : Int) ≤ 9223372036854775807 := by omega
  have HN := Lib.hid h8
  have HM := Lib.hid hm
  have HIK : Hid ((Try.prog.info? 23).map (·.size) = some 32) := Lib.hid (size_of info_key)
  have HIS : Hid ((Try.prog.info? 31).map (·.size) = some 33) := Lib.hid (size_of info_share)
  have HZ : Hid ((Try.prog.info? 31).bind (·.zero) = some (.agg (zeros33.map bv).toArray)) := Lib.hid (zero_of info_share)
  have HZL : Hid ((zeros33.map bv).length = 33) := Lib.hid (by simp [zeros33])
  clear h8 hm hmm
  unfold body_sua
  conv => arg 2; arg 1; whnf
  go_loopw [5, 6, 7, 8] (fun va vb vc v wx => SuaRel L M L.length w va vb vc v wx) (fun _ _ _ v _ => L.length - (intOf v).toNat)
  case atStart => exact ⟨0, rfl, by omega, OwnF.nil _ _ _ _, OwnF.nil _ _ _ _, OwnF.nil _ _ _ _, Apart2.nil _, Apart2.nil _, Apart2.nil _, Below.refl _ _⟩
  case round =>
    obtain ⟨i, rfl, hi, oa, ob, oc, ab, ac, bc, bl⟩ := hrel
    by_cases hlt : i < L.length
    · have hI : (i : Int) < L.length := by omega
      have hIM : (i : Int) < M.length := by omega
      obtain ⟨x, hx⟩ : ∃ x, x = xAt i := ⟨_, rfl⟩
      have e0 : IntKind.i64.wrap (7 * (i : Int)) = 7 * (i : Int) := IntWalk.i64_in _ (by omega)
      have e1 : IntKind.i64.wrap (7 * (i : Int) + 1) = 7 * (i : Int) + 1 := IntWalk.i64_in _ (by omega)
      have e2 : IntKind.u8.wrap (7 * (i : Int) + 1) = 7 * (i : Int) + 1 := by
        unfold IntKind.wrap
        simp [IntKind.bits, IntKind.signed]
        omega
      have e4 : 7 * (i : Int) + 1 = (x.toNat : Int) := by
        rw [hx, xAt, UInt8.toNat_ofNat']
        omega
      obtain ⟨p, hp⟩ : ∃ p, p = L.getD i [] := ⟨_, rfl⟩
      obtain ⟨q, hq⟩ : ∃ q, q = M.getD i [] := ⟨_, rfl⟩
      have HPL : Hid (p.length = 32) := Lib.hid (by rw [hp]; exact len_get hL.out.1 hlt)
      have HQL : Hid (q.length = 32) := Lib.hid (by rw [hq]; exact len_get hM.out.1 (by have := HM.out; omega))
      have HPM : Hid ((p.map bv).length = 32) := Lib.hid (by rw [List.length_map]; exact HPL.out)
      have HQM : Hid ((q.map bv).length = 32) := Lib.hid (by rw [List.length_map]; exact HQL.out)
      have HB1 : Hid (Try.prog.built 31 [(0, .int .u8 (x.toNat : Int))] = some ((x :: List.replicate 32 (0 : UInt8)).map bv).toArray) := Lib.hid (share_built1 x)
      have HXL : Hid (((x :: List.replicate 32 (0 : UInt8)).map bv).length = 33) := Lib.hid (by simp)
      obtain ⟨sa, hsa⟩ : ∃ sa, sa = x :: p := ⟨_, rfl⟩
      obtain ⟨sb, hsb⟩ : ∃ sb, sb = x :: q := ⟨_, rfl⟩
      obtain ⟨sc, hsc⟩ : ∃ sc, sc = x :: sumK p q := ⟨_, rfl⟩
      have HB2 : Hid (Try.prog.built 31 [(0, .int .u8 (x.toNat : Int)), (1, .agg (p.map bv).toArray)] = some (sa.map bv).toArray) := Lib.hid (by rw [hsa]; exact share_built2 x p HPL.out)
      have HB3 : Hid (Try.prog.built 31 [(0, .int .u8 (x.toNat : Int)), (1, .agg (q.map bv).toArray)] = some (sb.map bv).toArray) := Lib.hid (by rw [hsb]; exact share_built2 x q HQL.out)
      have LSA : Hid (sa.length = 33) := Lib.hid (by rw [hsa, List.length_cons, HPL.out])
      have LSB : Hid (sb.length = 33) := Lib.hid (by rw [hsb, List.length_cons, HQL.out])
      have LSC : Hid (sc.length = 33) := Lib.hid (by rw [hsc, List.length_cons, sumK_length])
      have LSM : Hid ((sc.map bv).length = 33) := Lib.hid (by rw [List.length_map]; exact LSC.out)
      have HPX : Hid ((x :: List.replicate 32 (0 : UInt8)).map bv = putC 33 (x :: sumK p q) 1) := Lib.hid (by
        unfold putC
        simp
        rfl)
      have EA : Hid (shA L i ++ [sa] = shA L (i + 1)) := Lib.hid (by rw [shA_succ, hsa, hx, hp])
      have EB : Hid (shA M i ++ [sb] = shA M (i + 1)) := Lib.hid (by rw [shA_succ, hsb, hx, hq])
      have EC : Hid (shC L M i ++ [sc] = shC L M (i + 1)) := Lib.hid (by rw [shC_succ, hsc, hx, hp, hq])
      have NA : Hid ((shA L i).length + 1 ≤ maxLen ∧ ((shA L i).length + 1) * 33 ≤ 140737488355328) := Lib.hid (by rw [shA_length]; unfold maxLen; omega)
      have NB : Hid ((shA M i).length + 1 ≤ maxLen ∧ ((shA M i).length + 1) * 33 ≤ 140737488355328) := Lib.hid (by rw [shA_length]; unfold maxLen; omega)
      have NC : Hid ((shC L M i).length + 1 ≤ maxLen ∧ ((shC L M i).length + 1) * 33 ≤ 140737488355328) := Lib.hid (by rw [shC_length]; unfold maxLen; omega)
      have CL : Hid (∀ W, Below w.heap.size w W → ∀ j, j < 32 → W.cell? ⟨b, o + i * 32 + j, none⟩ = some (bv (p.getD j 0))) := Lib.hid fun W hW j hj => by rw [hp]; exact hcL.out W hW i j hlt hj
      have CM : Hid (∀ W, Below w.heap.size w W → ∀ j, j < 32 → W.cell? ⟨b2, o2 + i * 32 + j, none⟩ = some (bv (q.getD j 0))) := Lib.hid fun W hW j hj => by rw [hq]; exact hcM.out W hW i j (by have := HM.out; omega) hj
      have RL : Hid (∀ W, Below w.heap.size w W → W.rangeAt b (o + i * 32) (p.map bv)) := Lib.hid fun W hW => by rw [hp]; exact el_range hL.out.1 (hcL.out W hW) hlt
      have RM : Hid (∀ W, Below w.heap.size w W → W.rangeAt b2 (o2 + i * 32) (q.map bv)) := Lib.hid fun W hW => by rw [hq]; exact el_range hM.out.1 (hcM.out W hW) (by have := HM.out; omega)
      have HI := Lib.hid hlt
      have SZ : Hid (w.heap.size ≤ wr.heap.size) := Lib.hid bl.size
      have OA := Lib.hid oa
      have OB := Lib.hid ob
      have OC := Lib.hid oc
      have AB := Lib.hid ab
      have AC := Lib.hid ac
      have BC := Lib.hid bc
      have BL := Lib.hid bl
      have HSC := Lib.hid hsc
      obtain ⟨W1, hW1⟩ : ∃ W : World, W = wr.alloc (.cells (zeros33.map bv).toArray 31) := ⟨_, rfl⟩
      have K1 : Hid (Blk W1 wr.heap.size 31 (zeros33.map bv)) := Lib.hid (by rw [hW1]; exact Blk.made wr _ _)
      have L1 : Hid (Below wr.heap.size wr W1) := Lib.hid (by rw [hW1]; exact (Below.refl _ _).alloc (Nat.le_refl _) _)
      clear oa ob oc ab ac bc bl hx hp hq hsa hsb hsc hlt hi
      go_upto_region 8 with (fail)
      clear e0 e1 e2 e4
      go_upto_region 9 with (first
        | refine wpList_build_is rfl 31 _ rfl _ rfl _ HB1.out ?_
        | (refine wpList_alloc_z rfl 31 rfl _ HZ.out wr.heap.size rfl ?_
           rw [← hW1])
        | (refine wpList_store_blk rfl 31 _ _ rfl wr.heap.size 31 _ K1.out ((x :: List.replicate 32 (0 : UInt8)).map bv) rfl rfl (by rw [HXL.out, HZL.out]) (by rw [HXL.out]; exact HIS.out) (bv_one _) ?_
           intro w2 hb2 hs2
           have K2 := Lib.hid hb2
           have S2 := Lib.hid hs2
           clear hb2 hs2))
      have K3 : Hid (Blk w2 wr.heap.size 31 (putC 33 (x :: sumK p q) 1)) := Lib.hid (by rw [← HPX.out]; exact K2.out)
      have L2 : Hid (Below wr.heap.size wr w2) := Lib.hid (L1.out.trans S2.out.below)
      have B2 : Hid (Below w.heap.size w w2) := Lib.hid (BL.out.trans (L2.out.mono SZ.out))
      clear hW1 K1 K2 S2 L1
      go_wp2_with (fail)
      refine sui_loop _ _ _ _ _ _ _ _ _ _ _ _ _ _ _ _ _ _ _ _ _ _ _ _ _ _ _ _ _ _ _ _ _ _ _ _ _ _ _ _ _ _ _ _ _ _ _ _ _ _ _ _ _ _ _ _ _ _ _ _ _ _ _ _ _ _ _ _ _ _ _ _ _ _ _ _ _ _ _ _ _ _ _ _ _ _ _ _ _ _ _ _ _ _ _ _ _ _ _ _ _ _ _ _ _ _ _ _ _ _ _ _ _ _ _ _ _ _ _ _ _ _ _ _ _ _ _ L.length M.length i b o b2 o2 cl cm wr.heap.size p q x w2 HI.out HM.out (Lib.hid ⟨by have := hbl.out.1; have := SZ.out; omega, by have := hbl.out.2; have := SZ.out; omega⟩) (Lib.hid (CL.out w2 B2.out)) (Lib.hid (CM.out w2 B2.out)) K3 (Lib.hid ?_)
      intro u11 u47 u48 u49 u50 u51 u52 u53 u54 u55 u56 u57 u58 u59 u60 u61 u62 u63 u64 u65 u66 w3 K4' S4
      have K4 : Hid (Blk w3 wr.heap.size 31 (sc.map bv)) := Lib.hid (by rw [HSC.out]; exact K4'.out)
      have L3 : Hid (Below wr.heap.size wr w3) := Lib.hid (L2.out.trans S4.out.below)
      have B3 : Hid (Below w.heap.size w w3) := Lib.hid (BL.out.trans (L3.out.mono SZ.out))
      have OA3 := Lib.hid (OA.out.lain L3.out)
      have OB3 := Lib.hid (OB.out.lain L3.out)
      have OC3 := Lib.hid (OC.out.lain L3.out)
      have ltA : Hid (∀ k, u5.ownBlock = some k → k < wr.heap.size) := Lib.hid fun k hk => (OA.out.lt k hk).2
      have ltB : Hid (∀ k, u6.ownBlock = some k → k < wr.heap.size) := Lib.hid fun k hk => (OB.out.lt k hk).2
      have ltC : Hid (∀ k, u7.ownBlock = some k → k < wr.heap.size) := Lib.hid fun k hk => (OC.out.lt k hk).2
      have sz3 := L3.out.size
      clear L2 B2 K3 K4' S4 OA OB OC
      go_upto_region 14 with (first
        | refine wpList_load_mid rfl 23 (.tmp 71) rfl b (o + i * 32) rfl (p.map bv) _ (RL.out w3 B3.out) Try.underlying23 rfl (by rw [HPM.out]; exact HIK.out) ?_
        | refine wpList_build_is rfl 31 _ rfl _ rfl _ HB2.out ?_
        | refine wpList_build_el rfl 26 31 _ rfl ish _ 33 Try.underlying26 his hisz hiss (by decide) (by decide) sa LSA.out rfl ?_
        | (at_builtin
           refine wpList_append_el _ sa _ rfl _ _ _ rfl w.heap.size 31 ish _ 33 33 Try.underlying26 his hisz hiss hisb (by simp [Value.cells, zeros33]) (by decide) _ (shA L i) rfl OA3.out LSA.out rfl NA.out.1 NA.out.2 B3.out.size ?_
           intro va w4 own4 nx4))
      have OA4 : Hid (OwnF 33 w4 w.heap.size 31 va (shA L (i + 1))) := Lib.hid (by rw [← EA.out]; exact own4)
      have OB4 : Hid (OwnF 33 w4 w.heap.size 31 u6 (shA M i)) := Lib.hid (OB3.out.next nx4 AB.out.symm)
      have OC4 : Hid (OwnF 33 w4 w.heap.size 31 u7 (shC L M i)) := Lib.hid (OC3.out.next nx4 AC.out.symm)
      have BA4 : Hid (Apart2 u6 va) := Lib.hid (nx4.apart (fun k hk => Nat.lt_of_lt_of_le (ltB.out k hk) sz3) AB.out.symm)
      have CA4 : Hid (Apart2 u7 va) := Lib.hid (nx4.apart (fun k hk => Nat.lt_of_lt_of_le (ltC.out k hk) sz3) AC.out.symm)
      have K5 : Hid (Blk w4 wr.heap.size 31 (sc.map bv)) := Lib.hid (next_blk nx4 K4.out (fun e => Nat.lt_irrefl _ (ltA.out _ e)))
      have B4 : Hid (Below w.heap.size w w4) := Lib.hid (B3.out.trans nx4.below)
      have sz4 : Hid (wr.heap.size ≤ w4.heap.size) := Lib.hid (Nat.le_trans sz3 nx4.size)
      clear own4 nx4 OA3 OB3 OC3 K4 B3 L3 sz3
      go_upto_region 15 with (first
        | refine wpList_load_mid rfl 23 (.tmp 80) rfl b2 (o2 + i * 32) rfl (q.map bv) _ (RM.out w4 B4.out) Try.underlying23 rfl (by rw [HQM.out]; exact HIK.out) ?_
        | refine wpList_build_is rfl 31 _ rfl _ rfl _ HB3.out ?_
        | refine wpList_build_el rfl 26 31 _ rfl ish _ 33 Try.underlying26 his hisz hiss (by decide) (by decide) sb LSB.out rfl ?_
        | (at_builtin
           refine wpList_append_el _ sb _ rfl _ _ _ rfl w.heap.size 31 ish _ 33 33 Try.underlying26 his hisz hiss hisb (by simp [Value.cells, zeros33]) (by decide) _ (shA M i) rfl OB4.out LSB.out rfl NB.out.1 NB.out.2 B4.out.size ?_
           intro vb w5 own5 nx5))
      have OB5 : Hid (OwnF 33 w5 w.heap.size 31 vb (shA M (i + 1))) := Lib.hid (by rw [← EB.out]; exact own5)
      have OA5 : Hid (OwnF 33 w5 w.heap.size 31 va (shA L (i + 1))) := Lib.hid (OA4.out.next nx5 BA4.out.symm)
      have OC5 : Hid (OwnF 33 w5 w.heap.size 31 u7 (shC L M i)) := Lib.hid (OC4.out.next nx5 BC.out.symm)
      have AB5 : Hid (Apart2 va vb) := Lib.hid (nx5.apart (fun k hk => (OA4.out.lt k hk).2) BA4.out.symm)
      have CB5 : Hid (Apart2 u7 vb) := Lib.hid (nx5.apart (fun k hk => Nat.lt_of_lt_of_le (ltC.out k hk) sz4.out) BC.out.symm)
      have K6 : Hid (Blk w5 wr.heap.size 31 (sc.map bv)) := Lib.hid (next_blk nx5 K5.out (fun e => Nat.lt_irrefl _ (ltB.out _ e)))
      have B5 : Hid (Below w.heap.size w w5) := Lib.hid (B4.out.trans nx5.below)
      clear own5 nx5 OA4 OB4 OC4 K5 B4 BA4 BC
      go_wp2_with (first
        | refine wpList_load_blk rfl 31 (.tmp 10) rfl wr.heap.size rfl 31 (sc.map bv) _ K6.out Try.underlying31 rfl (by rw [LSM.out]; exact HIS.out) ?_
        | refine wpList_build_el rfl 26 31 _ rfl ish _ 33 Try.underlying26 his hisz hiss (by decide) (by decide) sc LSC.out rfl ?_
        | (at_builtin
           refine wpList_append_el _ sc _ rfl _ _ _ rfl w.heap.size 31 ish _ 33 33 Try.underlying26 his hisz hiss hisb (by simp [Value.cells, zeros33]) (by decide) _ (shC L M i) rfl OC5.out LSC.out rfl NC.out.1 NC.out.2 B5.out.size ?_
           intro vc w6 own6 nx6
           have OC6 : Hid (OwnF 33 w6 w.heap.size 31 vc (shC L M (i + 1))) := Lib.hid (by rw [← EC.out]; exact own6)
           have OA6 : Hid (OwnF 33 w6 w.heap.size 31 va (shA L (i + 1))) := Lib.hid (OA5.out.next nx6 CA4.out.symm)
           have OB6 : Hid (OwnF 33 w6 w.heap.size 31 vb (shA M (i + 1))) := Lib.hid (OB5.out.next nx6 CB5.out.symm)
           have AC6 : Hid (Apart2 va vc) := Lib.hid (nx6.apart (fun k hk => (OA5.out.lt k hk).2) CA4.out.symm)
           have BC6 : Hid (Apart2 vb vc) := Lib.hid (nx6.apart (fun k hk => (OB5.out.lt k hk).2) CB5.out.symm)
           have B6 : Hid (Below w.heap.size w w6) := Lib.hid (B5.out.trans nx6.below)
           clear own6 nx6))
      have hi := HI.out
      refine ⟨⟨i + 1, by go_num, by omega, OA6.out, OB6.out, OC6.out, AB5.out, AC6.out, BC6.out, B6.out⟩, by simp [intOf]; omega⟩
    · obtain rfl : i = L.length := by omega
      have OA := Lib.hid oa
      have OB := Lib.hid ob
      have OC := Lib.hid oc
      have BL := Lib.hid bl
      clear oa ob oc ab ac bc bl hlt hi
      go_wp2_with (fail)
      exact HQ.out _ _ _ _ _ _ _ _ _ _ _ _ _ _ _ _ _ _ _ _ _ _ _ _ _ _ _ _ _ _ _ _ _ _ _ _ _ _ _ _ _ _ _ _ _ _ _ _ _ _ _ _ _ _ _ _ _ _ _ _ _ _ OA OB OC BL
end Go.Proofs.Ytpegnafapjcanaa.shamirSums
