/- LeaseEnds' walk: at the end no number is left. Premises: the lease's contracts. -/
import Derived.Test.YtmdpoceadjdhmaaLsAw
import Derived.Test.YtmdpoceadjdhmaaSrowB
import Derived.Test.YtmdpoceadjdhmaaHere
namespace Go.Proofs.Ytmdpoceadjdhmaa
open Go.RowKit

theorem zeroNc : (Try.prog.info? 35).bind (·.zero) = some (.agg ((List.replicate 12 (0 : UInt8)).map bv).toArray) := by kernel_rfl
theorem sizeNc : (Try.prog.info? 35).map (·.size) = some 12 := by kernel_rfl
def LenRel (LC : LeaseC) (w : World) (p : Value) (node st k : Nat) (x : Value) (W : World) : Prop := ∃ i : Nat, x = .int .i64 (i : Int) ∧ i ≤ k ∧ LKeep LC w p ⟨node, st + i, 4611686018427387904⟩ W
noncomputable def body_len : Code := (((Try.f5.body.map loopsOf).getD [])[0]?).getD .skip
set_option maxRecDepth 100000 in
set_option maxHeartbeats 4000000 in
theorem len_loop (LC : LeaseC) (c0 c2 c3 c4 c5 c6 c8 c10 c11 c12 c13 c14 c15 c16 c17 c18 c19 c20 c21 c22 c23 c24 c25 c26 c27 c28 c29 c30 c31 c32 c33 c34 c35 c36 c37 c38 c39 c40 c41 c42 c43 c44 c45 c46 c47 c48 c49 c50 c51 c52 c53 c54 c55 c56 c57 c58 c59 c60 c61 c62 c63 c64 c65 c66 c67 c68 c69 c70 c71 c72 c73 c74 c75 c76 c77 c78 c79 c80 c81 c82 c83 c84 c85 c86 c87 c88 c89 c90 c91 c92 c93 c94 c95 c96 c97 c98 c99 c100 c101 c102 c103 c104 c105 c106 c107 c108 c109 c110 c111 c112 c113 c114 c115 : Value) (p : Value) (node st k a : Nat) (w w0 : World) (hk : Hid (a < 256 ∧ k = a % 10 ∧ st + k = 4611686018427387904)) (hp : Hid (LKeep LC w p ⟨node, st, 4611686018427387904⟩ w0)) {Q : Exit → Act → World → Prop}
    (HQ : Hid (∀ (u6 u10 u11 u32 u33 u34 u35 u36 u37 u38 u39 u40 u41 u42 u43 u44 u45 y : Value) (W : World), Hid (LKeep LC w p ⟨node, 4611686018427387904, 4611686018427387904⟩ W) → Q (.exit 0) ⟨List.toArray (c0 :: (.int .u8 (a : Int)) :: c2 :: c3 :: c4 :: c5 :: u6 :: p :: c8 :: y :: u10 :: u11 :: c12 :: c13 :: c14 :: c15 :: c16 :: c17 :: c18 :: c19 :: c20 :: c21 :: c22 :: c23 :: c24 :: c25 :: c26 :: c27 :: c28 :: c29 :: c30 :: c31 :: u32 :: u33 :: u34 :: u35 :: u36 :: u37 :: u38 :: u39 :: u40 :: u41 :: u42 :: u43 :: u44 :: u45 :: c46 :: c47 :: c48 :: c49 :: c50 :: c51 :: c52 :: c53 :: c54 :: c55 :: c56 :: c57 :: c58 :: c59 :: c60 :: c61 :: c62 :: c63 :: c64 :: c65 :: c66 :: c67 :: c68 :: c69 :: c70 :: c71 :: c72 :: c73 :: c74 :: c75 :: c76 :: c77 :: c78 :: c79 :: c80 :: c81 :: c82 :: c83 :: c84 :: c85 :: c86 :: c87 :: c88 :: c89 :: c90 :: c91 :: c92 :: c93 :: c94 :: c95 :: c96 :: c97 :: c98 :: c99 :: c100 :: c101 :: c102 :: c103 :: c104 :: c105 :: c106 :: c107 :: c108 :: c109 :: c110 :: c111 :: c112 :: c113 :: c114 :: c115 :: []), []⟩ W)) :
    (Code.loop body_len).wp Try.prog Q ⟨List.toArray (c0 :: (.int .u8 (a : Int)) :: c2 :: c3 :: c4 :: c5 :: c6 :: p :: c8 :: (.int .i64 0) :: c10 :: c11 :: c12 :: c13 :: c14 :: c15 :: c16 :: c17 :: c18 :: c19 :: c20 :: c21 :: c22 :: c23 :: c24 :: c25 :: c26 :: c27 :: c28 :: c29 :: c30 :: c31 :: c32 :: c33 :: c34 :: c35 :: c36 :: c37 :: c38 :: c39 :: c40 :: c41 :: c42 :: c43 :: c44 :: c45 :: c46 :: c47 :: c48 :: c49 :: c50 :: c51 :: c52 :: c53 :: c54 :: c55 :: c56 :: c57 :: c58 :: c59 :: c60 :: c61 :: c62 :: c63 :: c64 :: c65 :: c66 :: c67 :: c68 :: c69 :: c70 :: c71 :: c72 :: c73 :: c74 :: c75 :: c76 :: c77 :: c78 :: c79 :: c80 :: c81 :: c82 :: c83 :: c84 :: c85 :: c86 :: c87 :: c88 :: c89 :: c90 :: c91 :: c92 :: c93 :: c94 :: c95 :: c96 :: c97 :: c98 :: c99 :: c100 :: c101 :: c102 :: c103 :: c104 :: c105 :: c106 :: c107 :: c108 :: c109 :: c110 :: c111 :: c112 :: c113 :: c114 :: c115 :: []), []⟩ w0 := by
  unfold body_len
  conv => arg 2; arg 1; whnf
  go_loopw [9] (fun x wx => LenRel LC w p node st k x wx) (fun x _ => k - (intOf x).toNat)
  case atStart => exact ⟨0, rfl, Nat.zero_le _, hp.out⟩
  case round =>
    obtain ⟨i, rfl, hi, hl⟩ := hrel
    obtain ⟨ha, hka, hst⟩ := hk.out
    have HL := Lib.hid hl
    have em : (a : Int) % 10 = (k : Int) := by omega
    have e8 : IntKind.u8.wrap (k : Int) = (k : Int) := IntWalk.u8_in _ (by omega)
    have e9 : IntKind.i64.wrap (k : Int) = (k : Int) := IntWalk.i64_in _ (by omega)
    by_cases hlt : i < k
    · have iI : (i : Int) < k := by omega
      have HLT := Lib.hid hlt
      have HTK : Hid (Calls Try.prog 10 #[p] wr fun e w' => ∃ v : List UInt8, v.length = 12 ∧ e = .returned (.tuple #[arrV v, .int .i64 0]) ∧ LKeep LC w p ⟨node, st + (i + 1), 4611686018427387904⟩ w') := Lib.hid (by
        have h1 : takeL ⟨node, st + i, 4611686018427387904⟩ = (⟨node, st + i + 1, 4611686018427387904⟩, st + i, 0) := takeL_yes (show st + i < 4611686018427387904 by omega)
        refine (lk_nonce hl).mono ?_
        rintro e w' ⟨rfl, h2⟩
        rw [h1] at h2 ⊢
        exact ⟨_, nonceL_length _, rfl, h2⟩)
      have HZL : Hid (((List.replicate 12 (0 : UInt8)).map bv).length = 12) := Lib.hid rfl
      clear hl hlt hi ha hka hst
      go_wp2_with (fail)
      refine HTK.out.mono ?_
      rintro e w1 ⟨v, hv, rfl, h1⟩
      have K1 := Lib.hid h1
      have HVL : Hid ((v.map bv).length = 12) := Lib.hid (by rw [List.length_map, hv])
      obtain ⟨C, hC⟩ : ∃ C, w1.heap.size = C := ⟨_, rfl⟩
      have HC := Lib.hid hC
      clear h1 hv hC
      go_wp2_with (first
        | (with_reducible refine here_alloc ?_
           refine wpList_alloc_w rfl 35 rfl ((List.replicate 12 (0 : UInt8)).map bv) zeroNc C HC.out ?_
           intro w4 k4 b4 z4
           have K4 := Lib.hid k4
           have B4 := Lib.hid b4
           clear k4 b4 z4)
        | (with_reducible refine here_store ?_
           refine wpList_store_blk rfl 35 _ _ rfl C 35 _ K4.out (v.map bv) rfl rfl (by rw [HVL.out, HZL.out]) (by rw [HVL.out]; exact sizeNc) (bv_one _) ?_
           intro w5 k5 s5
           have P5 := Lib.hid (K1.out.on (HC.out.symm ▸ B4.out.trans s5.below))
           clear k5 s5 K4 B4))
      have hl := HLT.out
      exact ⟨⟨i + 1, by go_num, by omega, P5.out⟩, by simp [intOf]; omega⟩
    · have iI : ¬ (i : Int) < k := by omega
      obtain rfl : i = k := by omega
      have HE : Hid (LKeep LC w p ⟨node, 4611686018427387904, 4611686018427387904⟩ wr) := Lib.hid (by rw [hst] at hl; exact hl)
      clear hl hlt hi ha hka hst
      go_wp2_with (fail)
      exact HQ.out _ _ _ _ _ _ _ _ _ _ _ _ _ _ _ _ _ _ _ HE
set_option maxRecDepth 100000 in
set_option maxHeartbeats 8000000 in
theorem leaseEnds.walkC (LC : LeaseC) (LN : LeaseN) (a0 a1 a2 : Int) (w : World) (k0 : (Lit.int .u16 a0).wf = true) (k1 : (Lit.int .u8 a1).wf = true) (k2 : (Lit.int .u64 a2).wf = true) :
    Calls Try.prog 5 #[.int .u16 a0, .int .u8 a1, .int .u64 a2] w fun e w' => e = .returned (.bool true) ∧ Below w.heap.size w w' := by
  obtain ⟨node, rfl, hnode⟩ : ∃ n : Nat, a0 = (n : Int) ∧ n < 65536 := by
    simp [Lit.wf, IntKind.min, IntKind.max, IntKind.signed, IntKind.bits] at k0
    exact ⟨a0.toNat, by omega, by omega⟩
  obtain ⟨a, rfl, ha⟩ : ∃ n : Nat, a1 = (n : Int) ∧ n < 256 := by
    simp [Lit.wf, IntKind.min, IntKind.max, IntKind.signed, IntKind.bits] at k1
    exact ⟨a1.toNat, by omega, by omega⟩
  obtain ⟨n, rfl, hn⟩ : ∃ n : Nat, a2 = (n : Int) ∧ n < 18446744073709551616 := by
    simp [Lit.wf, IntKind.min, IntKind.max, IntKind.signed, IntKind.bits] at k2
    exact ⟨a2.toNat, by omega, by omega⟩
  obtain ⟨k, hk⟩ : ∃ k, k = a % 10 := ⟨_, rfl⟩
  obtain ⟨st, hst⟩ : ∃ st, st = 4611686018427387904 - k := ⟨_, rfl⟩
  have em : (a : Int) % 10 = (k : Int) := by omega
  have e8 : IntKind.u8.wrap (k : Int) = (k : Int) := IntWalk.u8_in _ (by omega)
  have e9 : IntKind.u64.wrap (k : Int) = (k : Int) := IntWalk.u64_in _ (by omega)
  have e10 : IntKind.u64.wrap (4611686018427387904 - (k : Int)) = (st : Int) := by rw [IntWalk.u64_in _ (by omega)]; omega
  have HK : Hid (a < 256 ∧ k = a % 10 ∧ st + k = 4611686018427387904) := Lib.hid ⟨ha, hk, by omega⟩
  have HNW : Hid (Calls Try.prog 6 #[.int .u16 (node : Int), .int .u64 (st : Int)] w fun e w' => ∃ p, e = .returned p ∧ LKeep LC w p ⟨node, st, st⟩ w') := Lib.hid (by
    refine (lk_new (LC := LC) (Below.refl _ w) hnode (show st < 18446744073709551616 by omega)).mono ?_
    rintro e w' ⟨p, rfl, h, _⟩
    have h2 : newL node st = ⟨node, st, st⟩ := by
      unfold newL
      rw [Nat.min_eq_left (by omega)]
    rw [h2] at h
    exact ⟨p, rfl, h⟩)
  have HG : Hid (∀ W p, LKeep LC w p ⟨node, st, st⟩ W → Calls Try.prog 12 #[p, .int .u64 4611686018427387904] W fun e w' => e = .returned (.int .i64 0) ∧ LKeep LC w p ⟨node, st, 4611686018427387904⟩ w') := Lib.hid fun W p h => by
    have h1 : grantL ⟨node, st, st⟩ 4611686018427387904 = (⟨node, st, 4611686018427387904⟩, 0) := by
      unfold grantL
      rw [if_neg (show ¬ 4611686018427387904 < st by omega), if_neg (by omega)]
    have h2 := lk_grant h (b := 4611686018427387904) (by omega)
    rw [h1] at h2
    exact h2
  have HTK : Hid (∀ W p, LKeep LC w p ⟨node, 4611686018427387904, 4611686018427387904⟩ W → Calls Try.prog 10 #[p] W fun e w' => ∃ v : List UInt8, v.length = 12 ∧ e = .returned (.tuple #[arrV v, .int .i64 12]) ∧ LKeep LC w p ⟨node, 4611686018427387904, 4611686018427387904⟩ w') := Lib.hid fun W p h => by
    have h1 : takeL ⟨node, 4611686018427387904, 4611686018427387904⟩ = (⟨node, 4611686018427387904, 4611686018427387904⟩, 0, 12) := takeL_spent (show ¬ 4611686018427387904 < 4611686018427387904 from Nat.lt_irrefl _) rfl
    refine (lk_nonce h).mono ?_
    rintro e w' ⟨rfl, h2⟩
    rw [h1] at h2 ⊢
    exact ⟨_, nonceL_length _, rfl, h2⟩
  have HWN : Hid (∀ W p, LKeep LC w p ⟨node, 4611686018427387904, 4611686018427387904⟩ W → Calls Try.prog 14 #[p, .int .u64 1] W fun e w' => e = .returned (.tuple #[.int .u64 0, .int .i64 12]) ∧ LKeep LC w p ⟨node, 4611686018427387904, 4611686018427387904⟩ w') := Lib.hid fun W p h => by
    have h1 : wantsL ⟨node, 4611686018427387904, 4611686018427387904⟩ 1 = (0, 12) := by
      unfold wantsL
      rw [if_pos (show 4611686018427387904 < 4611686018427387904 + 1 by omega)]
    have h2 := lk_wants h (n := 1) (by omega)
    rw [h1] at h2
    exact h2.mono fun _ _ ⟨h3, h4, _⟩ => ⟨h3, h4⟩
  have HN2 : Hid (∀ W, Below w.heap.size w W → Calls Try.prog 6 #[.int .u16 (node : Int), .int .u64 (n : Int)] W fun e w' => ∃ p, e = .returned p ∧ LKeep LC w p (newL node n) w') := Lib.hid fun W hW => (lk_new (LC := LC) hW hnode hn).mono fun _ _ ⟨p, h1, h2, _⟩ => ⟨p, h1, h2⟩
  have HLF : Hid (∀ W p, LKeep LC w p (newL node n) W → Calls Try.prog 16 #[p] W fun e w' => e = .returned (.int .u64 0) ∧ LKeep LC w p (newL node n) w') := Lib.hid fun W p h => by
    refine (lk_left h).mono ?_
    rintro e w' ⟨rfl, m, rfl⟩
    refine ⟨?_, h.on (below_drewN (Below.refl _ _) m)⟩
    have h1 : (newL node n).bound - (newL node n).next = 0 := Nat.sub_self _
    rw [h1]
    rfl
  have HNG : Hid (∀ W, Calls Try.prog 12 #[.pointer none, .int .u64 (n : Int)] W fun e w' => e = .returned (.int .i64 1) ∧ Below W.heap.size W w') := Lib.hid fun W => LN.grant n W hn
  have HNWN : Hid (∀ W, Calls Try.prog 14 #[.pointer none, .int .u64 (n : Int)] W fun e w' => ∃ u : Nat, e = .returned (.tuple #[.int .u64 (u : Int), .int .i64 14]) ∧ Below W.heap.size W w') := Lib.hid fun W => LN.wants n W hn
  have HZL : Hid (((List.replicate 12 (0 : UInt8)).map bv).length = 12) := Lib.hid rfl
  clear k0 k1 k2 hnode ha hn hk hst
  go_enter Try.func5, Try.ntmps5
  go_wp2_with (fail)
  refine HNW.out.mono ?_
  rintro e w1 ⟨p, rfl, h⟩
  have K1 := Lib.hid h
  clear h
  go_wp2_with (fail)
  refine (HG.out w1 p K1.out).mono ?_
  rintro e w2 ⟨rfl, h⟩
  have K2 := Lib.hid h
  clear h
  go_wp2_with (fail)
  refine len_loop LC _ _ _ _ _ _ _ _ _ _ _ _ _ _ _ _ _ _ _ _ _ _ _ _ _ _ _ _ _ _ _ _ _ _ _ _ _ _ _ _ _ _ _ _ _ _ _ _ _ _ _ _ _ _ _ _ _ _ _ _ _ _ _ _ _ _ _ _ _ _ _ _ _ _ _ _ _ _ _ _ _ _ _ _ _ _ _ _ _ _ _ _ _ _ _ _ _ _ _ _ _ _ _ _ _ _ _ _ _ _ _ _ _ p node st k a w w2 HK K2 (Lib.hid ?_)
  intro u6 u10 u11 u32 u33 u34 u35 u36 u37 u38 u39 u40 u41 u42 u43 u44 u45 y w3 K3
  go_wp2_with (fail)
  refine (HTK.out w3 p K3.out).mono ?_
  rintro e w4 ⟨v, hv, rfl, h⟩
  have K4 := Lib.hid h
  have HVL : Hid ((v.map bv).length = 12) := Lib.hid (by rw [List.length_map, hv])
  obtain ⟨C, hC⟩ : ∃ C, w4.heap.size = C := ⟨_, rfl⟩
  have HC := Lib.hid hC
  clear h hv hC
  go_wp2_with (first
    | (with_reducible refine here_alloc ?_
       refine wpList_alloc_w rfl 35 rfl ((List.replicate 12 (0 : UInt8)).map bv) zeroNc C HC.out ?_
       intro w5 k5 b5 z5
       have A5 := Lib.hid k5
       have B5 := Lib.hid b5
       clear k5 b5 z5)
    | (with_reducible refine here_store ?_
       refine wpList_store_blk rfl 35 _ _ rfl C 35 _ A5.out (v.map bv) rfl rfl (by rw [HVL.out, HZL.out]) (by rw [HVL.out]; exact sizeNc) (bv_one _) ?_
       intro w6 k6 s6
       have K6 := Lib.hid (K4.out.on (HC.out.symm ▸ B5.out.trans s6.below))
       clear k6 s6 A5 B5))
  refine (HWN.out w6 p K6.out).mono ?_
  rintro e w7 ⟨rfl, h⟩
  have B7 := Lib.hid h.old
  clear h
  go_wp2_with (fail)
  refine (HN2.out w7 B7.out).mono ?_
  rintro e w8 ⟨q, rfl, h⟩
  have K8 := Lib.hid h
  clear h
  go_wp2_with (fail)
  refine (LN.take w8).mono ?_
  rintro e w9 ⟨u9, rfl, b9⟩
  have K9 := Lib.hid (K8.out.on b9)
  clear b9
  go_wp2_with (fail)
  refine (LN.nonce w9).mono ?_
  rintro e w10 ⟨u10, hu10, rfl, b10⟩
  have K10 := Lib.hid (K9.out.on b10)
  have HUL : Hid ((u10.map bv).length = 12) := Lib.hid (by rw [List.length_map, hu10])
  obtain ⟨C2, hC2⟩ : ∃ C, w10.heap.size = C := ⟨_, rfl⟩
  have HC2 := Lib.hid hC2
  clear b10 hu10 hC2
  go_wp2_with (first
    | (with_reducible refine here_alloc ?_
       refine wpList_alloc_w rfl 35 rfl ((List.replicate 12 (0 : UInt8)).map bv) zeroNc C2 HC2.out ?_
       intro w11 k11 b11 z11
       have A11 := Lib.hid k11
       have B11 := Lib.hid b11
       clear k11 b11 z11)
    | (with_reducible refine here_store ?_
       refine wpList_store_blk rfl 35 _ _ rfl C2 35 _ A11.out (u10.map bv) rfl rfl (by rw [HUL.out, HZL.out]) (by rw [HUL.out]; exact sizeNc) (bv_one _) ?_
       intro w12 k12 s12
       have K12 := Lib.hid (K10.out.on (HC2.out.symm ▸ B11.out.trans s12.below))
       clear k12 s12 A11 B11))
  refine (HNWN.out w12).mono ?_
  rintro e w13 ⟨u13, rfl, b13⟩
  have K13 := Lib.hid (K12.out.on b13)
  clear b13
  go_wp2_with (fail)
  refine (HLF.out w13 q K13.out).mono ?_
  rintro e w14 ⟨rfl, h⟩
  have K14 := Lib.hid h
  clear h
  go_wp2_with (fail)
  refine (LN.left w14).mono ?_
  rintro e w15 ⟨rfl, b15⟩
  have K15 := Lib.hid (K14.out.on b15)
  clear b15
  go_wp2_with (fail)
  refine (HNG.out w15).mono ?_
  rintro e w16 ⟨rfl, b16⟩
  have K16 := Lib.hid (K15.out.on b16)
  clear b16
  go_wp2_with (fail)
  refine (awakeL_any LC w16).mono ?_
  rintro e w17 ⟨rfl, b17⟩
  have K17 := Lib.hid (K16.out.on b17)
  clear b17
  go_wp2_with (fail)
  go_ret
  exact ⟨rfl, K17.out.old⟩
end Go.Proofs.Ytmdpoceadjdhmaa
