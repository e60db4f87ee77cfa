/- LeasePlays' walk: whatever is asked of a lease. Premise: the lease's contracts. -/
import Derived.Test.YtmdpoceadjdhmaaLsPl
import Derived.Test.YtmdpoceadjdhmaaLsAw
import Derived.Test.YtmdpoceadjdhmaaRowI
import Derived.Test.YtmdpoceadjdhmaaSrowB
import Derived.Test.YtmdpoceadjdhmaaHere
import Derived.Test.YtmdpoceadjdhmaaArrAll
import Derived.BigQuiet
namespace Go.Proofs.Ytmdpoceadjdhmaa
open Go.RowKit

theorem zero12 : (Try.prog.info? 34).bind (·.zero) = some (.agg ((List.replicate 12 (0 : UInt8)).map bv).toArray) := by kernel_rfl
theorem zeroN12 : (Try.prog.info? 35).bind (·.zero) = some (.agg ((List.replicate 12 (0 : UInt8)).map bv).toArray) := by kernel_rfl
theorem size12 : (Try.prog.info? 34).map (·.size) = some 12 := by kernel_rfl
theorem sizeN12 : (Try.prog.info? 35).map (·.size) = some 12 := by kernel_rfl
def LplRel (LC : LeaseC) (w : World) (p : Value) (Q : Nat) (zs : List Int) (x : Value) (W : World) : Prop := ∃ (i : Nat) (s : LS), x = .int .i64 (i : Int) ∧ i ≤ zs.length ∧ PlIs LC w p Q s s W
noncomputable def body_lpl : Code := (((Try.f3.body.map loopsOf).getD [])[0]?).getD .skip
set_option maxRecDepth 100000 in
set_option maxHeartbeats 8000000 in
theorem lpl_loop (LC : LeaseC) (c0 c1 c3 c4 c5 c6 c10 c11 c12 c13 c14 c15 c16 c17 c18 c19 c20 c21 c22 c23 c24 c25 c26 c27 c28 c29 c30 c31 c32 c33 c34 c35 c36 c37 c38 c39 c40 c41 c42 c43 c44 c45 c46 c47 c48 c49 c50 c51 c52 c53 c54 c55 c56 c57 c58 c59 c60 c61 c62 c63 c64 c65 c66 c67 c68 c69 c70 c71 c72 c73 c74 c75 c76 c77 c78 c79 c80 c81 c82 c83 c84 c85 c86 c87 c88 c89 c90 c91 c92 c93 c94 c95 c96 c97 c98 c99 c100 c101 c102 c103 c104 c105 c106 c107 c108 c109 c110 c111 c112 c113 c114 c115 c116 : Value) (A : Option Addr) (ca : Nat) (zs : List Int) (p : Value) (Q : Nat) (s0 : LS) (w w0 : World) (hz : Hid (RdI .u64 w (.slice A zs.length ca) zs)) (hp : Hid (PlIs LC w p Q s0 s0 w0)) {Q' : Exit → Act → World → Prop}
    (HQ : Hid (∀ (u6 u10 u11 u12 u13 u14 u15 u16 u17 u18 u25 u26 u27 u28 u29 u30 u31 u32 u33 u34 u35 u36 u37 u38 u39 u40 u41 u42 u43 u44 u45 u46 u47 u48 u49 u50 u51 u52 u53 u54 u55 u56 u57 u58 u59 u60 u61 u62 u63 u64 u65 u66 u67 u68 u69 u70 u71 u72 u73 u74 u75 u76 u77 u78 u79 u80 u81 u82 u83 u84 u85 u86 u87 u88 u89 u90 u91 u92 u93 u94 u95 u96 u97 u98 u99 u100 u101 u102 u103 u104 u105 u106 u107 u108 u109 u110 u111 u112 u113 u114 u115 y : Value) (s : LS) (W : World), Hid (PlIs LC w p Q s s W) → Q' (.exit 0) ⟨List.toArray (c0 :: c1 :: (.slice A zs.length ca) :: c3 :: c4 :: c5 :: u6 :: p :: (.pointer (some ⟨Q, 0, none⟩)) :: y :: u10 :: u11 :: u12 :: u13 :: u14 :: u15 :: u16 :: u17 :: u18 :: c19 :: c20 :: c21 :: c22 :: c23 :: c24 :: u25 :: u26 :: u27 :: u28 :: u29 :: u30 :: u31 :: u32 :: u33 :: u34 :: u35 :: u36 :: u37 :: u38 :: u39 :: u40 :: u41 :: u42 :: u43 :: u44 :: u45 :: u46 :: u47 :: u48 :: u49 :: u50 :: u51 :: u52 :: u53 :: u54 :: u55 :: u56 :: u57 :: u58 :: u59 :: u60 :: u61 :: u62 :: u63 :: u64 :: u65 :: u66 :: u67 :: u68 :: u69 :: u70 :: u71 :: u72 :: u73 :: u74 :: u75 :: u76 :: u77 :: u78 :: u79 :: u80 :: u81 :: u82 :: u83 :: u84 :: u85 :: u86 :: u87 :: u88 :: u89 :: u90 :: u91 :: u92 :: u93 :: u94 :: u95 :: u96 :: u97 :: u98 :: u99 :: u100 :: u101 :: u102 :: u103 :: u104 :: u105 :: u106 :: u107 :: u108 :: u109 :: u110 :: u111 :: u112 :: u113 :: u114 :: u115 :: c116 :: []), []⟩ W)) :
    (Code.loop body_lpl).wp Try.prog Q' ⟨List.toArray (c0 :: c1 :: (.slice A zs.length ca) :: c3 :: c4 :: c5 :: c6 :: p :: (.pointer (some ⟨Q, 0, none⟩)) :: (.int .i64 0) :: c10 :: c11 :: c12 :: c13 :: c14 :: c15 :: c16 :: c17 :: c18 :: c19 :: c20 :: c21 :: c22 :: c23 :: c24 :: c25 :: c26 :: c27 :: c28 :: c29 :: c30 :: c31 :: c32 :: c33 :: c34 :: c35 :: c36 :: c37 :: c38 :: c39 :: c40 :: c41 :: c42 :: c43 :: c44 :: c45 :: c46 :: c47 :: c48 :: c49 :: c50 :: c51 :: c52 :: c53 :: c54 :: c55 :: c56 :: c57 :: c58 :: c59 :: c60 :: c61 :: c62 :: c63 :: c64 :: c65 :: c66 :: c67 :: c68 :: c69 :: c70 :: c71 :: c72 :: c73 :: c74 :: c75 :: c76 :: c77 :: c78 :: c79 :: c80 :: c81 :: c82 :: c83 :: c84 :: c85 :: c86 :: c87 :: c88 :: c89 :: c90 :: c91 :: c92 :: c93 :: c94 :: c95 :: c96 :: c97 :: c98 :: c99 :: c100 :: c101 :: c102 :: c103 :: c104 :: c105 :: c106 :: c107 :: c108 :: c109 :: c110 :: c111 :: c112 :: c113 :: c114 :: c115 :: c116 :: []), []⟩ w0 := by
  unfold body_lpl
  conv => arg 2; arg 1; whnf
  go_loopw [9] (fun x wx => LplRel LC w p Q zs x wx) (fun x _ => zs.length - (intOf x).toNat)
  case atStart => exact ⟨0, s0, rfl, Nat.zero_le _, hp.out⟩
  case round =>
    obtain ⟨i, s, rfl, hi, hpl⟩ := hrel
    have HP := Lib.hid hpl
    have hzl : zs.length ≤ maxLen := by
      obtain ⟨_, _, h, hm, _⟩ := hz.out.ex
      exact hm
    unfold maxLen at hzl
    by_cases hlt : i < zs.length
    · have iI : (i : Int) < zs.length := by omega
      by_cases h60 : i < 60
      · have i60 : (i : Int) < 60 := by omega
        have HLT := Lib.hid hlt
        obtain ⟨A', ca', he, _, hcell⟩ := (hz.out.below hpl.old).ex
        injection he with he1 he2 he3
        subst he1 he3
        obtain ⟨g, o, rfl, hg, hc, hwf⟩ := hcell i hlt
        obtain ⟨a, ha, hal⟩ : ∃ a : Nat, zs[i] = (a : Int) ∧ a < 18446744073709551616 := by
          have h1 := hwf
          simp [Lit.wf, IntKind.min, IntKind.max, IntKind.signed, IntKind.bits] at h1
          exact ⟨zs[i].toNat, by omega, by omega⟩
        have hc2 := hc.trans (congrArg (fun z => some (Value.int .u64 z)) ha)
        clear hc
        have hc : wr.cell? ⟨g, o + i, none⟩ = some (.int .u64 (a : Int)) := hc2
        clear hc2
        obtain ⟨n, hn⟩ : ∃ n, n = a / 4 := ⟨_, rfl⟩
        have e4 : (a : Int) / 4 = (n : Int) := by omega
        have HNL : Hid (n < 18446744073709551616) := Lib.hid (by omega)
        have e5 : IntKind.u64.wrap (n : Int) = (n : Int) := IntWalk.u64_in _ (by omega)
        have HOK := Lib.hid hpl.good
        have HZS : Hid (zero12 = zero12) := Lib.hid rfl
        clear hpl hlt h60 hi hcell hwf ha hg hzl
        obtain ⟨k, hk⟩ : ∃ k, k = a % 4 := ⟨_, rfl⟩
        have hk4 : k = 0 ∨ k = 1 ∨ k = 2 ∨ k = 3 := by omega
        have em : (a : Int) % 4 = (k : Int) := by omega
        clear hk hn hal
        rcases hk4 with rfl | rfl | rfl | rfl
        case' inl =>
          go_wp2_with (fail)
          refine (pl_take HP.out).mono ?_
          rintro e w1 ⟨rfl, h1⟩
          have P1 := Lib.hid h1
          obtain ⟨s', hs'⟩ : ∃ s', s' = (takeL s).1 := ⟨_, rfl⟩
          obtain ⟨v, hv⟩ : ∃ v, v = (takeL s).2.1 := ⟨_, rfl⟩
          obtain ⟨c, hcd⟩ : ∃ c, c = (takeL s).2.2 := ⟨_, rfl⟩
          have HR : Hid (Calls Try.prog 9 #[.pointer (some ⟨Q, 0, none⟩)] w1 fun e w' => e = .returned (.tuple #[.int .u64 (v : Int), .int .i64 (c : Int)]) ∧ PlIs LC w p Q s' s' w') := Lib.hid (by
            rw [hs', hv, hcd]
            exact plr_take P1.out HOK.out)
          rw [← hv, ← hcd]
          clear h1 hs' hv hcd hc
          go_wp2_with (fail)
          refine HR.out.mono ?_
          rintro e w2 ⟨rfl, h2⟩
          have P2 := Lib.hid h2
          clear h2
        case' inr.inl =>
          go_wp2_with (fail)
          refine (pl_nonce HP.out).mono ?_
          rintro e w1 ⟨rfl, h1⟩
          have P1 := Lib.hid h1
          obtain ⟨s', hs'⟩ : ∃ s', s' = (takeL s).1 := ⟨_, rfl⟩
          obtain ⟨v, hv⟩ : ∃ v, v = nonceL s := ⟨_, rfl⟩
          obtain ⟨c, hcd⟩ : ∃ c, c = (takeL s).2.2 := ⟨_, rfl⟩
          have HVL : Hid ((v.map bv).length = 12) := Lib.hid (by rw [List.length_map, hv]; exact nonceL_length s)
          have HZL : Hid (((List.replicate 12 (0 : UInt8)).map bv).length = 12) := Lib.hid rfl
          have HR : Hid (∀ W, PlIs LC w p Q s' s W → Calls Try.prog 11 #[.pointer (some ⟨Q, 0, none⟩)] W fun e w' => e = .returned (.tuple #[arrV v, .int .i64 (c : Int)]) ∧ PlIs LC w p Q s' s' w' ∧ Chg (fun j => j = Q) W w') := Lib.hid fun W hW => by
            rw [hv, hcd]
            have h3 := plr_nonce hW HOK.out
            rw [← hs'] at h3
            exact h3
          rw [← hs'] at P1
          rw [← hv, ← hcd]
          obtain ⟨i0, hi0, hz0, hz1, hz2⟩ := info_parts info_u8
          have hEQ : ∀ W, (Op.equalIn 10000 35 (.agg (v.map bv).toArray) (.agg (v.map bv).toArray)).run Try.prog W = .ok true W := fun W => by
            have h5 := run_equal_bytes W 35 5 12 i0 Try.underlying35 Try.underlying5 hi0 hz1 v v (by rw [hv]; exact nonceL_length s) (by rw [hv]; exact nonceL_length s)
            rw [decide_eq_true rfl] at h5
            exact h5
          obtain ⟨C, hC⟩ : ∃ C, w1.heap.size = C := ⟨_, rfl⟩
          have HC := Lib.hid hC
          clear h1 hs' hv hcd hc hC
          go_wp2_with (first
            | (with_reducible refine here_alloc ?_
               refine wpList_alloc_w rfl 35 rfl ((List.replicate 12 (0 : UInt8)).map bv) zeroN12 C HC.out ?_
               intro w4 k4 b4 z4
               have K4 := Lib.hid k4
               have B4 := Lib.hid b4
               clear k4 b4 z4)
            | (with_reducible refine here_store ?_
               refine wpList_store_blk rfl 35 _ _ rfl C 35 _ K4.out (v.map bv) rfl rfl (by rw [HVL.out, HZL.out]) (by rw [HVL.out]; exact sizeN12) (bv_one _) ?_
               intro w5 k5 s5
               have K5 := Lib.hid k5
               have P5 := Lib.hid (P1.out.on (HC.out.symm ▸ B4.out.trans s5.below))
               clear k5 s5 K4 B4))
          refine (HR.out w5 P5.out).mono ?_
          rintro e w6 ⟨rfl, h6, h6c⟩
          have P6 := Lib.hid h6
          have CH6 : Hid (Blk w6 C 35 (v.map bv)) := Lib.hid (h6c.blk K5.out fun e => by
            have h7 := P1.out.blk.lt
            have h8 := HC.out
            have e2 : C = Q := e
            omega)
          obtain ⟨C2, hC2⟩ : ∃ C2, w6.heap.size = C2 := ⟨_, rfl⟩
          have HC2 := Lib.hid hC2
          clear h6 h6c hC2
          go_wp2_with (first
            | (with_reducible refine here_alloc ?_
               refine wpList_alloc_w rfl 34 rfl ((List.replicate 12 (0 : UInt8)).map bv) zero12 C2 HC2.out ?_
               intro w7 k7 b7 z7
               have K7 := Lib.hid k7
               have B7 := Lib.hid b7
               clear k7 b7 z7)
            | (with_reducible refine here_store ?_
               refine wpList_store_blk rfl 34 _ _ rfl C2 34 _ K7.out (v.map bv) rfl rfl (by rw [HVL.out, HZL.out]) (by rw [HVL.out]; exact size12) (bv_one _) ?_
               intro w8 k8 s8
               have K8 := Lib.hid k8
               have P2 := Lib.hid (P6.out.on (HC2.out.symm ▸ B7.out.trans s8.below))
               have K5b : Hid (Blk w8 C 35 (v.map bv)) := Lib.hid (CH6.out.below (HC2.out.symm ▸ B7.out.trans s8.below) CH6.out.lt)
               clear k8 s8 K7 B7)
            | (with_reducible refine here_load ?_
               refine wpList_load_blk rfl 35 (.tmp 15) rfl C rfl 35 (v.map bv) _ K5b.out Try.underlying35 rfl (by rw [HVL.out]; exact sizeN12) ?_)
            | (with_reducible refine here_load ?_
               refine wpList_load_blk rfl 34 (.tmp 17) rfl C2 rfl 34 (v.map bv) _ K8.out Try.underlying34 rfl (by rw [HVL.out]; exact size12) ?_))
        case' inr.inr.inl =>
          go_wp2_with (fail)
          refine (pl_grant HP.out HNL.out).mono ?_
          rintro e w1 ⟨rfl, h1⟩
          have P1 := Lib.hid h1
          obtain ⟨s', hs'⟩ : ∃ s', s' = (grantL s n).1 := ⟨_, rfl⟩
          obtain ⟨c, hcd⟩ : ∃ c, c = (grantL s n).2 := ⟨_, rfl⟩
          have HR : Hid (Calls Try.prog 13 #[.pointer (some ⟨Q, 0, none⟩), .int .u64 (n : Int)] w1 fun e w' => e = .returned (.int .i64 (c : Int)) ∧ PlIs LC w p Q s' s' w') := Lib.hid (by
            rw [hs', hcd]
            exact plr_grant P1.out n)
          rw [← hcd]
          clear h1 hs' hcd hc
          go_wp2_with (fail)
          refine HR.out.mono ?_
          rintro e w2 ⟨rfl, h2⟩
          have P2 := Lib.hid h2
          clear h2
        case' inr.inr.inr =>
          go_wp2_with (fail)
          refine (pl_wants HP.out HNL.out).mono ?_
          rintro e w1 ⟨rfl, h1⟩
          have P1 := Lib.hid h1
          obtain ⟨s', hs'⟩ : ∃ s', s' = s := ⟨_, rfl⟩
          obtain ⟨v, hv⟩ : ∃ v, v = (wantsL s n).1 := ⟨_, rfl⟩
          obtain ⟨c, hcd⟩ : ∃ c, c = (wantsL s n).2 := ⟨_, rfl⟩
          have HR : Hid (Calls Try.prog 15 #[.pointer (some ⟨Q, 0, none⟩), .int .u64 (n : Int)] w1 fun e w' => e = .returned (.tuple #[.int .u64 (v : Int), .int .i64 (c : Int)]) ∧ PlIs LC w p Q s' s' w') := Lib.hid (by
            rw [hs', hv, hcd]
            exact plr_wants P1.out HOK.out HNL.out)
          rw [← hv, ← hcd]
          clear h1 hs' hv hcd hc
          go_wp2_with (fail)
          refine HR.out.mono ?_
          rintro e w2 ⟨rfl, h2⟩
          have P2 := Lib.hid h2
          clear h2
        all_goals
          go_upto_region 24 with (fail)
          have hok := P2.out.good
          obtain ⟨b, hb⟩ : ∃ b, b = s'.bound := ⟨_, rfl⟩
          obtain ⟨x, hx⟩ : ∃ x, x = s'.next := ⟨_, rfl⟩
          obtain ⟨d, hd⟩ : ∃ d, d = s'.bound - s'.next := ⟨_, rfl⟩
          have ed : IntKind.u64.wrap ((b : Int) - (x : Int)) = (d : Int) := by
            have h1 := hok.2
            rw [IntWalk.u64_in _ (by omega)]
            omega
          have HLF := Lib.hid (fun m => pl_left (P2.out.on (below_drewN (Below.refl _ _) m)))
          rw [← hd] at HLF
          obtain ⟨q1, q2⟩ := P2.out.cells hx hb
          clear hok hb hx hd
          go_quiet (first | (go_at_call 16; exact Calls.quiet_of (HLF.out _)))
          clear q1 q2
          go_wp2_with (fail)
          have hl := HLT.out
          refine ⟨⟨i + 1, s', by go_num, by omega, P2.out.on (below_drewN (Below.refl _ _) _)⟩, by simp [intOf]; omega⟩
      · have i60 : ¬ (i : Int) < 60 := by omega
        clear hlt h60 hi hzl hpl
        go_wp2_with (fail)
        exact HQ.out _ _ _ _ _ _ _ _ _ _ _ _ _ _ _ _ _ _ _ _ _ _ _ _ _ _ _ _ _ _ _ _ _ _ _ _ _ _ _ _ _ _ _ _ _ _ _ _ _ _ _ _ _ _ _ _ _ _ _ _ _ _ _ _ _ _ _ _ _ _ _ _ _ _ _ _ _ _ _ _ _ _ _ _ _ _ _ _ _ _ _ _ _ _ _ _ _ _ _ _ _ _ _ _ HP
    · have iI : ¬ (i : Int) < zs.length := by omega
      clear hlt hi hzl hpl
      go_wp2_with (fail)
      exact HQ.out _ _ _ _ _ _ _ _ _ _ _ _ _ _ _ _ _ _ _ _ _ _ _ _ _ _ _ _ _ _ _ _ _ _ _ _ _ _ _ _ _ _ _ _ _ _ _ _ _ _ _ _ _ _ _ _ _ _ _ _ _ _ _ _ _ _ _ _ _ _ _ _ _ _ _ _ _ _ _ _ _ _ _ _ _ _ _ _ _ _ _ _ _ _ _ _ _ _ _ _ _ _ _ _ HP
set_option maxRecDepth 100000 in
set_option maxHeartbeats 2000000 in
theorem leasePlays.walkC (LC : LeaseC) (a0 : Int) (a1 : Int) (v2 : Value) (zs : List Int) (w : World) (k0 : (Lit.int .u16 a0).wf = true) (k1 : (Lit.int .u64 a1).wf = true) (k2 : RdI .u64 w v2 zs) :
    Calls Try.prog 3 #[.int .u16 a0, .int .u64 a1, v2] w fun e w' => e = .returned (.bool true) ∧ Below w.heap.size w w' := by
  obtain ⟨A, ca, rfl, hzm, _⟩ := k2.ex
  have HZ := Lib.hid k2
  obtain ⟨node, rfl, hnode⟩ : ∃ n : Nat, a0 = (n : Int) ∧ n < 65536 := by
    simp [Lit.wf, IntKind.min, IntKind.max, IntKind.signed, IntKind.bits] at k0
    exact ⟨a0.toNat, by omega, by omega⟩
  obtain ⟨b, rfl, hb⟩ : ∃ n : Nat, a1 = (n : Int) ∧ n < 18446744073709551616 := by
    simp [Lit.wf, IntKind.min, IntKind.max, IntKind.signed, IntKind.bits] at k1
    exact ⟨a1.toNat, by omega, by omega⟩
  have zI : (zs.length : Int) ≤ 9223372036854775807 := by unfold maxLen at hzm; omega
  have HNW : Hid (Calls Try.prog 6 #[.int .u16 (node : Int), .int .u64 (b : Int)] w fun e w' => ∃ p, e = .returned p ∧ (∃ G, LC.At w' p (newL node b) G ∧ ∀ j, G j → w.heap.size ≤ j) ∧ Below w.heap.size w w') := Lib.hid (LC.new node b w hnode hb)
  clear k0 k1 k2 hzm hnode hb
  go_enter Try.func3, Try.ntmps3
  go_wp2_with (fail)
  refine HNW.out.mono ?_
  rintro e w1 ⟨p, rfl, ⟨G, h1, h2⟩, b1⟩
  have H1 := Lib.hid h1
  have H2 := Lib.hid h2
  have B1 := Lib.hid b1
  clear h1 h2 b1
  go_wp2_with (fail)
  refine (refLNew_any node b w1).mono ?_
  rintro e w2 ⟨rfl, h3, b2⟩
  have P2 : Hid (PlIs LC w p w1.heap.size (newL node b) (newL node b) w2) := Lib.hid (by
    have hlt := LC.lt H1.out
    exact ⟨G, LC.other H1.out (Chg.of_below b2) fun j hj e => (by have := hlt j hj; omega), H2.out, fun j hj e => (by have := hlt j hj; omega), h3, B1.out.size, B1.out.trans (b2.mono B1.out.size)⟩)
  obtain ⟨Q, hQ⟩ : ∃ Q, Q = w1.heap.size := ⟨_, rfl⟩
  rw [← hQ] at P2 ⊢
  clear h3 b2 hQ
  go_wp2_with (fail)
  refine lpl_loop LC _ _ _ _ _ _ _ _ _ _ _ _ _ _ _ _ _ _ _ _ _ _ _ _ _ _ _ _ _ _ _ _ _ _ _ _ _ _ _ _ _ _ _ _ _ _ _ _ _ _ _ _ _ _ _ _ _ _ _ _ _ _ _ _ _ _ _ _ _ _ _ _ _ _ _ _ _ _ _ _ _ _ _ _ _ _ _ _ _ _ _ _ _ _ _ _ _ _ _ _ _ _ _ _ _ _ _ _ _ _ _ _ _ A ca zs p Q (newL node b) w w2 HZ P2 (Lib.hid ?_)
  intro u6 u10 u11 u12 u13 u14 u15 u16 u17 u18 u25 u26 u27 u28 u29 u30 u31 u32 u33 u34 u35 u36 u37 u38 u39 u40 u41 u42 u43 u44 u45 u46 u47 u48 u49 u50 u51 u52 u53 u54 u55 u56 u57 u58 u59 u60 u61 u62 u63 u64 u65 u66 u67 u68 u69 u70 u71 u72 u73 u74 u75 u76 u77 u78 u79 u80 u81 u82 u83 u84 u85 u86 u87 u88 u89 u90 u91 u92 u93 u94 u95 u96 u97 u98 u99 u100 u101 u102 u103 u104 u105 u106 u107 u108 u109 u110 u111 u112 u113 u114 u115 y s w3 hp
  go_wp2_with (fail)
  refine (awakeL_any LC w3).mono ?_
  rintro e w4 ⟨rfl, b4⟩
  have B4 := Lib.hid b4
  clear b4
  go_wp2_with (fail)
  go_ret
  exact ⟨rfl, hp.out.old.trans (B4.out.mono hp.out.old.size)⟩
end Go.Proofs.Ytmdpoceadjdhmaa
