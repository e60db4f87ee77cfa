/- The loops of 'ShamirBack' (law 8): refreshing the shares; putting more and more of them together. Premises: the contracts of shamir's Refresh and Combine. -/
import Derived.Test.YtpegnafapjcanaaShamC
import Derived.Test.YtpegnafapjcanaaShLaw
import Derived.Test.YtpegnafapjcanaaLoadG
import Derived.Test.YtpegnafapjcanaaRfl
namespace Go.Proofs.Ytpegnafapjcanaa.shamirBack
open Go.RowKit

/-- Shares that are put together to the secret. -/
def Good (n t : Nat) (sec : List UInt8) (w : World) (v : Value) (L : List (List UInt8)) : Prop := Rf 33 w v L ∧ L.length = n ∧ Row8 L ∧ OnPoly t sec L
theorem Good.below {n t : Nat} {sec : List UInt8} {w w' : World} {v : Value} {L : List (List UInt8)} (h : Good n t sec w v L) (hb : Below w.heap.size w w') : Good n t sec w' v L := ⟨h.1.below hb, h.2⟩
def BkaRel (n t : Nat) (sec : List UInt8) (m : Nat) (w : World) (l e v : Value) (W : World) : Prop :=
  ∃ (i : Nat) (A : Option Addr) (c : Nat) (L : List (List UInt8)), v = .int .i64 (i : Int) ∧ i ≤ m ∧ e = .int .i64 0 ∧ l = .slice A n c ∧ Good n t sec W (.slice A n c) L ∧ Below w.heap.size w W
noncomputable def body_bka : Code := (((Try.f5.body.map loopsOf).getD [])[0]?).getD .skip
set_option maxRecDepth 100000 in
set_option maxHeartbeats 2000000 in
theorem bka_loop (HR : RefrC) (c0 c1 c3 c5 c7 c8 c9 c10 c11 c12 c13 c14 c18 c19 c20 c21 c22 c23 c24 c25 c26 c27 c28 c29 c30 c31 c32 c33 c34 c35 c36 c37 c38 c39 c40 c41 c42 c43 c44 c45 c46 c47 c48 c49 c50 c51 c52 c53 c54 c55 c56 c57 c58 c59 c60 c61 c62 c63 c64 c65 c66 c67 c68 c69 c70 c71 c72 c73 c74 c75 c76 c77 c78 c79 c80 c81 c82 c83 c84 c85 c86 c87 c88 c89 c90 c91 c92 c93 c94 c95 c96 c97 c98 c99 c100 c101 c102 c103 c104 c105 c106 c107 c108 c109 c110 c111 c112 c113 c114 c115 c116 c117 c118 : Value) (n t a6 cm ca : Nat) (Am Aa : Option Addr) (sec more : List UInt8) (L0 : List (List UInt8)) (w : World) (hn : n ≤ 8) (ht : 1 ≤ t) (htn : t ≤ n) (ha : a6 < 256) (hl : more.length ≤ 300)
    (hr : Hid (Rd w (.slice Am more.length cm) more)) (h0 : Hid (Good n t sec w (.slice Aa n ca) L0)) {Q : Exit → Act → World → Prop}
    (HQ : Hid (∀ (u17 u57 u58 u59 u60 u61 u62 u63 u64 u65 u66 u67 u68 u69 u70 u71 u72 u73 u74 : Value) (A : Option Addr) (c : Nat) (L : List (List UInt8)) (wx : World), Hid (Good n t sec wx (.slice A n c) L) → Hid (Below w.heap.size w wx) → Q (.exit 0) ⟨List.toArray (c0 :: c1 :: (.int .i64 (t : Int)) :: c3 :: (.slice Am more.length cm) :: c5 :: (.int .u8 (a6 : Int)) :: c7 :: c8 :: c9 :: c10 :: c11 :: c12 :: c13 :: c14 :: (.slice A n c) :: (.int .i64 0) :: u17 :: c18 :: c19 :: c20 :: c21 :: c22 :: c23 :: c24 :: c25 :: c26 :: c27 :: c28 :: c29 :: c30 :: c31 :: c32 :: c33 :: c34 :: c35 :: c36 :: c37 :: c38 :: c39 :: c40 :: c41 :: c42 :: c43 :: c44 :: c45 :: c46 :: c47 :: c48 :: c49 :: c50 :: c51 :: c52 :: c53 :: c54 :: c55 :: c56 :: u57 :: u58 :: u59 :: u60 :: u61 :: u62 :: u63 :: u64 :: u65 :: u66 :: u67 :: u68 :: u69 :: u70 :: u71 :: u72 :: u73 :: u74 :: c75 :: c76 :: c77 :: c78 :: c79 :: c80 :: c81 :: c82 :: c83 :: c84 :: c85 :: c86 :: c87 :: c88 :: c89 :: c90 :: c91 :: c92 :: c93 :: c94 :: c95 :: c96 :: c97 :: c98 :: c99 :: c100 :: c101 :: c102 :: c103 :: c104 :: c105 :: c106 :: c107 :: c108 :: c109 :: c110 :: c111 :: c112 :: c113 :: c114 :: c115 :: c116 :: c117 :: c118 :: []), []⟩ wx)) :
    (Code.loop body_bka).wp Try.prog Q ⟨List.toArray (c0 :: c1 :: (.int .i64 (t : Int)) :: c3 :: (.slice Am more.length cm) :: c5 :: (.int .u8 (a6 : Int)) :: c7 :: c8 :: c9 :: c10 :: c11 :: c12 :: c13 :: c14 :: (.slice Aa n ca) :: (.int .i64 0) :: (.int .i64 0) :: c18 :: c19 :: c20 :: c21 :: c22 :: c23 :: c24 :: c25 :: c26 :: c27 :: c28 :: c29 :: c30 :: c31 :: c32 :: c33 :: c34 :: c35 :: c36 :: c37 :: c38 :: c39 :: c40 :: c41 :: c42 :: c43 :: c44 :: c45 :: c46 :: c47 :: c48 :: c49 :: c50 :: c51 :: c52 :: c53 :: c54 :: c55 :: c56 :: c57 :: c58 :: c59 :: c60 :: c61 :: c62 :: c63 :: c64 :: c65 :: c66 :: c67 :: c68 :: c69 :: c70 :: c71 :: c72 :: c73 :: c74 :: c75 :: c76 :: c77 :: c78 :: c79 :: c80 :: c81 :: c82 :: c83 :: c84 :: c85 :: c86 :: c87 :: c88 :: c89 :: c90 :: c91 :: c92 :: c93 :: c94 :: c95 :: c96 :: c97 :: c98 :: c99 :: c100 :: c101 :: c102 :: c103 :: c104 :: c105 :: c106 :: c107 :: c108 :: c109 :: c110 :: c111 :: c112 :: c113 :: c114 :: c115 :: c116 :: c117 :: c118 :: []), []⟩ w := by
  obtain ⟨m, hm⟩ : ∃ m, m = a6 % 3 := ⟨_, rfl⟩
  have mI : (m : Int) < 3 := by omega
  have aI : (a6 : Int) < 256 := by omega
  have e1 : (a6 : Int) % 3 = (m : Int) := by omega
  have HN := Lib.hid hn
  have HT := Lib.hid ht
  have HTN := Lib.hid htn
  have HML := Lib.hid hl
  clear hm hn ht htn ha hl
  unfold body_bka
  conv => arg 2; arg 1; whnf
  go_loopw [15, 16, 17] (fun l e v wx => BkaRel n t sec m w l e v wx) (fun _ _ v _ => m - (intOf v).toNat)
  case atStart => exact ⟨0, Aa, ca, L0, rfl, by omega, rfl, rfl, h0.out, Below.refl _ _⟩
  case round =>
    obtain ⟨i, A, c, L, rfl, hi, rfl, rfl, hg, hb⟩ := hrel
    have HG := Lib.hid hg
    have HB := Lib.hid hb
    by_cases hlt : i < m
    · have hI : (i : Int) < m := by omega
      have HI := Lib.hid hlt
      clear hg hb hlt hi
      go_wp2_with (fail)
      refine (HR (.slice A n c) L t (.slice Am more.length cm) more wr HG.out.1 HG.out.2.2.1.1 HT.out (by have := HTN.out; have := HN.out; omega) (hr.out.below HB.out) (by have := HML.out; omega) HG.out.2.2.1.places).mono ?_
      rintro e w2 ⟨s, rfl, hs, hb2⟩
      obtain ⟨A2, c2, rfl, _, _, _⟩ := hs.form
      rw [refrB_length, HG.out.2.1] at hs ⊢
      have HG2 : Hid (Good n t sec w2 (.slice A2 n c2) (refrB L t more)) := Lib.hid ⟨hs, by rw [refrB_length, HG.out.2.1], HG.out.2.2.1.refresh t more, refrB_on HT.out more HG.out.2.2.2⟩
      have HB2 : Hid (Below w.heap.size w w2) := Lib.hid (HB.out.trans (hb2.mono HB.out.size))
      clear hs hb2
      go_wp2_with (fail)
      have hi := HI.out
      refine ⟨⟨i + 1, A2, c2, _, by go_num, by omega, rfl, rfl, HG2.out, HB2.out⟩, by simp [intOf]; omega⟩
    · obtain rfl : i = m := by omega
      clear hg hb hlt hi
      go_wp2_with (fail)
      exact HQ.out _ _ _ _ _ _ _ _ _ _ _ _ _ _ _ _ _ _ _ A c L _ HG HB
def BkbRel (L : List (List UInt8)) (n k : Nat) (B : Nat) (w : World) (s v : Value) (W : World) : Prop :=
  ∃ (i : Nat), v = .int .i64 (i : Int) ∧ i ≤ n ∧ OwnF 33 W B 31 s (rotL L n k i) ∧ Below B w W
noncomputable def body_bkb : Code := (((Try.f5.body.map loopsOf).getD [])[1]?).getD .skip
set_option maxRecDepth 100000 in
set_option maxHeartbeats 4000000 in
theorem bkb_loop (HC : CombC) (c0 c3 c4 c5 c6 c8 c9 c10 c11 c12 c13 c14 c16 c17 c21 c22 c23 c24 c25 c26 c27 c28 c29 c30 c31 c32 c33 c34 c35 c36 c37 c38 c39 c40 c41 c42 c43 c44 c45 c46 c47 c48 c49 c50 c51 c52 c53 c54 c55 c56 c57 c58 c59 c60 c61 c62 c63 c64 c65 c66 c67 c68 c69 c70 c71 c72 c73 c74 c75 c76 c77 c78 c79 c80 c81 c82 c83 c84 c85 c86 c87 c88 c89 c90 c91 c92 c93 c94 c95 c96 c97 c98 c99 c100 c101 c102 c103 c104 c105 c106 c107 c108 c109 c110 c111 c112 c113 c114 c115 c116 c117 c118 : Value) (n t k P b off c : Nat) (sec : List UInt8) (L : List (List UInt8)) (w : World) (hs : sec.length = 32) (hn1 : 1 ≤ n) (ht : 1 ≤ t) (htn : t ≤ n) (hk : k < n)
    (hg : Hid (Good n t sec w (.slice (some ⟨b, off, none⟩) n c) L)) (hp : Hid (Blk w P 23 (sec.map bv))) {Q : Exit → Act → World → Prop}
    (HQ : Hid (∀ (u14 u19 u20 u21 u22 u86 u87 u88 u89 u90 u91 u92 u93 u94 u95 u96 u97 u98 u99 u100 u101 u102 u103 u104 u105 u106 u107 u108 u109 u110 u111 u112 u113 u114 u115 u116 u117 : Value) (wx : World), Hid (Below w.heap.size w wx) → Q (.exit 2) ⟨List.toArray (c0 :: (.int .i64 (n : Int)) :: (.int .i64 (t : Int)) :: c3 :: c4 :: c5 :: c6 :: (.pointer (some ⟨P, 0, none⟩)) :: c8 :: c9 :: c10 :: c11 :: c12 :: c13 :: u14 :: (.slice (some ⟨b, off, none⟩) n c) :: c16 :: c17 :: (.int .i64 (k : Int)) :: u19 :: u20 :: u21 :: u22 :: c23 :: c24 :: c25 :: c26 :: c27 :: c28 :: c29 :: c30 :: c31 :: c32 :: c33 :: c34 :: c35 :: c36 :: c37 :: c38 :: c39 :: c40 :: c41 :: c42 :: c43 :: c44 :: c45 :: c46 :: c47 :: c48 :: c49 :: c50 :: c51 :: c52 :: c53 :: c54 :: c55 :: c56 :: c57 :: c58 :: c59 :: c60 :: c61 :: c62 :: c63 :: c64 :: c65 :: c66 :: c67 :: c68 :: c69 :: c70 :: c71 :: c72 :: c73 :: c74 :: c75 :: c76 :: c77 :: c78 :: c79 :: c80 :: c81 :: c82 :: c83 :: c84 :: c85 :: u86 :: u87 :: u88 :: u89 :: u90 :: u91 :: u92 :: u93 :: u94 :: u95 :: u96 :: u97 :: u98 :: u99 :: u100 :: u101 :: u102 :: u103 :: u104 :: u105 :: u106 :: u107 :: u108 :: u109 :: u110 :: u111 :: u112 :: u113 :: u114 :: u115 :: u116 :: u117 :: c118 :: []), []⟩ wx)) :
    (Code.loop body_bkb).wp Try.prog Q ⟨List.toArray (c0 :: (.int .i64 (n : Int)) :: (.int .i64 (t : Int)) :: c3 :: c4 :: c5 :: c6 :: (.pointer (some ⟨P, 0, none⟩)) :: c8 :: c9 :: c10 :: c11 :: c12 :: c13 :: c14 :: (.slice (some ⟨b, off, none⟩) n c) :: c16 :: c17 :: (.int .i64 (k : Int)) :: (.slice none 0 0) :: (.int .i64 0) :: c21 :: c22 :: c23 :: c24 :: c25 :: c26 :: c27 :: c28 :: c29 :: c30 :: c31 :: c32 :: c33 :: c34 :: c35 :: c36 :: c37 :: c38 :: c39 :: c40 :: c41 :: c42 :: c43 :: c44 :: c45 :: c46 :: c47 :: c48 :: c49 :: c50 :: c51 :: c52 :: c53 :: c54 :: c55 :: c56 :: c57 :: c58 :: c59 :: c60 :: c61 :: c62 :: c63 :: c64 :: c65 :: c66 :: c67 :: c68 :: c69 :: c70 :: c71 :: c72 :: c73 :: c74 :: c75 :: c76 :: c77 :: c78 :: c79 :: c80 :: c81 :: c82 :: c83 :: c84 :: c85 :: c86 :: c87 :: c88 :: c89 :: c90 :: c91 :: c92 :: c93 :: c94 :: c95 :: c96 :: c97 :: c98 :: c99 :: c100 :: c101 :: c102 :: c103 :: c104 :: c105 :: c106 :: c107 :: c108 :: c109 :: c110 :: c111 :: c112 :: c113 :: c114 :: c115 :: c116 :: c117 :: c118 :: []), []⟩ w := by
  obtain ⟨ish, his, hisz, hiss, hisb⟩ := info_of info_share
  have h8 := hg.out.2.2.1.1
  rw [hg.out.2.1] at h8
  have nI : (n : Int) ≤ 8 := by omega
  have kI : (k : Int) < n := by omega
  have tI : (t : Int) ≤ n := by omega
  have HS := Lib.hid hs
  have HSL : Hid ((sec.map bv).length = 32) := Lib.hid (by rw [List.length_map, hs])
  have HZL : Hid ((zeros32.map bv).length = 32) := Lib.hid (by simp [zeros32])
  have HIK : Hid ((Try.prog.info? 23).map (·.size) = some 32) := Lib.hid (size_of info_key)
  have HIS : Hid ((Try.prog.info? 31).map (·.size) = some 33) := Lib.hid (size_of info_share)
  have HZ : Hid ((Try.prog.info? 23).bind (·.zero) = some (.agg (zeros32.map bv).toArray)) := Lib.hid (zero_of info_key)
  have hq : ∀ W, (Op.equalIn 10000 23 (.agg (sec.map bv).toArray) (.agg (sec.map bv).toArray)).run Try.prog W = .ok true W := fun W => by
    have h := run_equalIn_key 9998 sec sec HS.out HS.out W
    rw [decide_eq_true rfl] at h
    exact h
  have HN1 := Lib.hid hn1
  have HK := Lib.hid hk
  have HT := Lib.hid ht
  have HTN := Lib.hid htn
  have HN8 := Lib.hid h8
  have HLn : Hid (L.length = n) := Lib.hid hg.out.2.1
  obtain ⟨_, _, he, _, _, hA⟩ := hg.out.1.form
  obtain ⟨b', off', e', hb1, hb3⟩ := hA (by rw [HLn.out]; omega)
  simp only [Value.slice.injEq] at he
  obtain ⟨he, -, -⟩ := he
  rw [e'] at he
  simp only [Option.some.injEq, Addr.mk.injEq] at he
  obtain ⟨rfl, rfl, -⟩ := he
  have HRC : Hid (∀ W, Below w.heap.size w W → ∀ i j, i < L.length → j < 33 → W.cell? ⟨b, off + i * 33 + j, none⟩ = some (bv ((L.getD i []).getD j 0))) := Lib.hid fun W hW i j hi hj => by
    rw [← hb3 i j hi hj]
    exact hW.cell (p := ⟨b, off + i * 33 + j, none⟩) hb1
  clear hs hn1 ht htn hk h8 hA hb1 hb3 e'
  unfold body_bkb
  conv => arg 2; arg 1; whnf
  go_loopw [19, 20] (fun s v wx => BkbRel L n k w.heap.size w s v wx) (fun _ v _ => n - (intOf v).toNat)
  case atStart => exact ⟨0, rfl, by omega, OwnF.nil _ _ _ _, Below.refl _ _⟩
  case round =>
    obtain ⟨i, rfl, hi, hown, hbl⟩ := hrel
    by_cases hlt : i < n
    · have hI : (i : Int) < n := by omega
      have HI := Lib.hid hlt
      obtain ⟨q, hq1⟩ : ∃ q, q = (k + i) % n := ⟨_, rfl⟩
      have hqn : q < n := by rw [hq1]; exact Nat.mod_lt _ (by omega)
      have e1 : IntKind.i64.wrap ((k : Int) + i) = (k : Int) + i := IntWalk.i64_in _ (by omega)
      have e2 : ((k : Int) + i).tmod n = (q : Int) := by
        rw [Int.tmod_eq_emod_of_nonneg (by omega), hq1]
        simp
      have e3 : ((k : Int) + i) % n = (q : Int) := by rw [hq1]; simp
      obtain ⟨xs, hxs⟩ : ∃ xs, xs = L.getD q [] := ⟨_, rfl⟩
      have HXL : Hid (xs.length = 33) := Lib.hid (by rw [hxs]; exact len_get hg.out.1.1 (by rw [HLn.out]; exact hqn))
      have HXM : Hid ((xs.map bv).length = 33) := Lib.hid (by rw [List.length_map]; exact HXL.out)
      have HRX : Hid (wr.rangeAt b (off + q * 33) (xs.map bv)) := Lib.hid (by
        rw [hxs]
        exact el_range hg.out.1.1 (HRC.out wr hbl) (by rw [HLn.out]; exact hqn))
      have HRS : Hid (rotL L n k i ++ [xs] = rotL L n k (i + 1)) := Lib.hid (by rw [rotL_succ, hxs, hq1])
      have HO := Lib.hid hown
      have HB := Lib.hid hbl
      have qI : (q : Int) < n := by omega
      have HRL : Hid ((rotL L n k i).length = i) := Lib.hid (rotL_length _ _ _ _)
      have HM1 : Hid ((rotL L n k i).length + 1 ≤ maxLen) := Lib.hid (by rw [HRL.out]; unfold maxLen; omega)
      have HM2 : Hid (((rotL L n k i).length + 1) * 33 ≤ 140737488355328) := Lib.hid (by rw [HRL.out]; omega)
      clear hown hbl hlt hi hq1 hxs
      go_upto_region 16 with (first
        | refine wpList_load_mid rfl 31 (.tmp 98) rfl b (off + q * 33) rfl (xs.map bv) _ HRX.out Try.underlying31 rfl (by rw [HXM.out]; exact HIS.out) ?_
        | refine wpList_build_el rfl 26 31 _ rfl ish _ 33 Try.underlying26 his hisz hiss (by decide) (by decide) xs HXL.out rfl ?_
        | (at_builtin
           refine wpList_append_el _ xs _ rfl _ _ _ rfl w.heap.size 31 ish _ 33 33 Try.underlying26 his hisz hiss hisb (by simp [Value.cells, zeros33]) (by decide) _ (rotL L n k i) rfl HO.out HXL.out rfl HM1.out HM2.out HB.out.size ?_
           intro v2 w2 own2 nx2))
      have O2 : Hid (OwnF 33 w2 w.heap.size 31 v2 (rotL L n k (i + 1))) := Lib.hid (by rw [← HRS.out]; exact own2)
      have B2 : Hid (Below w.heap.size w w2) := Lib.hid (HB.out.trans nx2.below)
      clear own2 nx2 e1 e2 e3
      by_cases hc : i + 1 < t
      · have hcI : (i : Int) + 1 < t := by omega
        clear hc
        go_wp2_with (fail)
        have hi := HI.out
        refine ⟨⟨i + 1, by go_num, by omega, O2.out, B2.out⟩, by simp [intOf]; omega⟩
      · have hcI : decide ((i : Int) + 1 < t) = false := decide_eq_false (by omega)
        have hcJ : ¬ (i : Int) + 1 < t := by omega
        have HCB : Hid (combB (rotL L n k (i + 1)) = sec) := Lib.hid (by
          have h := rotL_comb HS.out hg.out.2.2.2 hg.out.2.2.1 k (m := i + 1) (by rw [HLn.out]; omega) (by rw [HLn.out]; exact HI.out) (by omega)
          rw [HLn.out] at h
          exact h)
        have HPB : Hid (placesB (rotL L n k (i + 1)) = 0) := Lib.hid (by
          have h := rotL_places hg.out.2.2.1 k (m := i + 1) (by rw [HLn.out]; exact HI.out)
          rw [HLn.out] at h
          exact h)
        have HRN : Hid ((rotL L n k (i + 1)).length = i + 1) := Lib.hid (rotL_length _ _ _ _)
        clear hc
        go_wp2_with (fail)
        refine (HC v2 (rotL L n k (i + 1)) w2 O2.out.rf (by rw [HRN.out]; omega) (by rw [HRN.out]; have := HI.out; have := HN8.out; omega) HPB.out).mono ?_
        rintro e w3 ⟨rfl, hb3⟩
        rw [HCB.out]
        have O3 : Hid (OwnF 33 w3 w.heap.size 31 v2 (rotL L n k (i + 1))) := Lib.hid (O2.out.lain hb3)
        have B3 : Hid (Below w.heap.size w w3) := Lib.hid (B2.out.trans (hb3.mono B2.out.size))
        clear hb3 O2 B2
        obtain ⟨W4, hW4⟩ : ∃ W : World, W = w3.alloc (.cells (zeros32.map bv).toArray 23) := ⟨_, rfl⟩
        have K4 : Hid (Blk W4 w3.heap.size 23 (zeros32.map bv)) := Lib.hid (by rw [hW4]; exact Blk.made w3 _ _)
        have L4 : Hid (Below w3.heap.size w3 W4) := Lib.hid (by rw [hW4]; exact (Below.refl _ _).alloc (Nat.le_refl _) _)
        unfold arrV
        go_upto_region 18 with (first
          | (refine wpList_alloc_z rfl 23 rfl _ HZ.out w3.heap.size rfl ?_
             rw [← hW4])
          | (refine wpList_store_blk rfl 23 _ _ rfl w3.heap.size 23 _ K4.out (sec.map bv) rfl rfl (by rw [HSL.out, HZL.out]) (by rw [HSL.out]; exact HIK.out) (bv_one _) ?_
             intro w5 hb5 hs5
             have K5 := Lib.hid hb5
             have S5 := Lib.hid hs5
             clear hb5 hs5))
        have L5 : Hid (Below w3.heap.size w3 w5) := Lib.hid (L4.out.trans S5.out.below)
        have B5 : Hid (Below w.heap.size w w5) := Lib.hid (B3.out.trans (L5.out.mono B3.out.size))
        have P5 : Hid (Blk w5 P 23 (sec.map bv)) := Lib.hid (hp.out.below B5.out hp.out.lt)
        have O5 : Hid (OwnF 33 w5 w.heap.size 31 v2 (rotL L n k (i + 1))) := Lib.hid (O3.out.lain L5.out)
        clear hW4 K4 L4 S5 L5 O3 B3
        go_wp2_with (first
          | (refine wpList_load_blk_g 23 (.tmp 21) rfl rfl w3.heap.size rfl 23 (sec.map bv) _ K5.out Try.underlying23 rfl (by rw [HSL.out]; exact HIK.out) ?_)
          | (refine wpList_load_blk_g 23 (.tmp 7) rfl rfl P rfl 23 (sec.map bv) _ P5.out Try.underlying23 rfl (by rw [HSL.out]; exact HIK.out) ?_))
        have hi := HI.out
        refine ⟨⟨i + 1, by go_num, by omega, O5.out, B5.out⟩, by simp [intOf]; omega⟩
    · obtain rfl : i = n := by omega
      have HB := Lib.hid hbl
      clear hown hbl hlt hi
      go_wp2_with (fail)
      exact HQ.out _ _ _ _ _ _ _ _ _ _ _ _ _ _ _ _ _ _ _ _ _ _ _ _ _ _ _ _ _ _ _ _ _ _ _ _ _ _ HB
end Go.Proofs.Ytpegnafapjcanaa.shamirBack
