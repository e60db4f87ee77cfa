/- SlotWhole's second loop, walked. Premises: the contracts; all rows are short. -/
import Derived.Test.YtnaccngcpjkmbaaDoorPart17
namespace Go.Proofs.YtnaccngcpjkmbaaDoor
open Go.RowKit

def LoadIs (S : DS) (sm : Bool) (lb : List UInt8) : Prop := if sm then ∃ N t, loadS fp8 S 0 6 = some (lb, N, t) else loadS fp8 S 0 6 = none
def SwbRel {DC : DiskW} (SC : SlotC DC) (n : Nat) (pp dp : Value) (w : World) (vl vs v : Value) (W : World) : Prop :=
  ∃ (i : Nat) (S : DS) (sm : Bool) (lb : List UInt8), v = .int .i64 (i : Int) ∧ i ≤ n ∧ vs = .bool sm ∧ Keep SC w pp dp S vl lb W ∧ Calm S ∧ mostS S 0 6 ≤ i ∧ S.ops ≤ 10 * i ∧ LoadIs S sm lb
noncomputable def body_swb : Code := (((Tryd.f3.body.map loopsOf).getD [])[1]?).getD .skip
set_option maxRecDepth 100000 in
set_option maxHeartbeats 4000000 in
theorem swb_loop (DC : DiskW) (SC : SlotC DC) (c3 c4 c5 c6 c7 c10 c14 c15 c16 c17 c18 c19 c20 c21 c22 c23 c24 c25 c26 c27 c28 c29 c30 c31 c32 c33 c34 c35 c36 c37 c38 c39 c40 c41 c42 c43 c44 c45 c46 c47 c48 c49 c50 c51 c52 c53 c54 c55 c56 c57 c58 c59 c60 c61 c62 c63 c64 c65 c66 c67 c68 c69 c70 c71 c72 c73 c74 c75 c76 c77 c78 c79 c80 c81 c82 c83 c84 c85 c86 c87 c88 c89 c90 c91 c92 c93 c94 c95 c96 c97 c98 c99 c100 c101 c102 c103 c104 c105 c106 c107 c108 c109 c110 c111 c112 c113 c114 c115 c116 c117 c118 c119 c120 c121 c122 c123 c124 c125 c126 c127 c128 c129 c130 c131 c132 c133 c134 c135 c136 c137 c138 c139 c140 c141 c142 c143 c144 c145 c146 c147 c148 c149 c150 c151 c152 c153 : Value) (xss : List (List UInt8)) (Al : Option Addr) (cl : Nat) (us : List UInt8) (Au : Option Addr) (cu : Nat) (fs : List UInt8) (vf : Value) (X : Addr) (dp : Value) (w W0 : World) (hs : Hid (Salts w)) (hl : Hid (RsA w (.slice Al xss.length cl) xss)) (hu : Hid (Rd w (.slice Au us.length cu) us)) (hf : Hid (Rd w vf fs))
    (hn : Hid (xss.length ≤ 8 ∧ us.length ≤ 8 ∧ fs.length ≤ 20 ∧ ∀ q (h : q < xss.length), xss[q].length ≤ 600)) (h0 : Hid (Keep SC w (.pointer (some X)) dp newS (.slice none 0 0) [] W0)) {Q : Exit → Act → World → Prop}
    (HQ : Hid (∀ (u6 u14 u15 u16 u17 u18 u19 u20 u21 u55 u56 u57 u58 u59 u60 u61 u62 u63 u64 u65 u66 u67 u68 u69 u70 u71 u72 u73 u74 u75 u76 u77 u78 u79 u80 u81 u82 u83 u84 u85 u86 u87 u88 u89 u90 u91 u92 u93 u94 u95 u96 u97 u98 u99 u100 u101 u102 u103 u104 u105 u106 u107 u108 u109 u110 u111 u112 u113 u114 u115 u116 u117 u118 u119 u120 u121 u122 u123 u124 u125 u126 u127 u128 u129 u130 u131 u132 u133 u134 u135 u136 u137 u138 u139 u140 u141 u142 u143 u144 u145 u146 u147 u148 u149 u150 u151 u152 v1 v2 v3 : Value) (W : World), Hid (Below w.heap.size w W) → Q (.exit 2) ⟨List.toArray ((.slice Al xss.length cl) :: (.slice Au us.length cu) :: vf :: c3 :: c4 :: c5 :: u6 :: c7 :: dp :: (.pointer (some X)) :: c10 :: v1 :: v2 :: v3 :: u14 :: u15 :: u16 :: u17 :: u18 :: u19 :: u20 :: u21 :: c22 :: c23 :: c24 :: c25 :: c26 :: c27 :: c28 :: c29 :: c30 :: c31 :: c32 :: c33 :: c34 :: c35 :: c36 :: c37 :: c38 :: c39 :: c40 :: c41 :: c42 :: c43 :: c44 :: c45 :: c46 :: c47 :: c48 :: c49 :: c50 :: c51 :: c52 :: c53 :: c54 :: u55 :: u56 :: u57 :: u58 :: u59 :: u60 :: u61 :: u62 :: u63 :: u64 :: u65 :: u66 :: u67 :: u68 :: u69 :: u70 :: u71 :: u72 :: u73 :: u74 :: u75 :: u76 :: u77 :: u78 :: u79 :: u80 :: u81 :: u82 :: u83 :: u84 :: u85 :: u86 :: u87 :: u88 :: u89 :: u90 :: u91 :: u92 :: u93 :: u94 :: u95 :: u96 :: u97 :: u98 :: u99 :: u100 :: u101 :: u102 :: u103 :: u104 :: u105 :: u106 :: u107 :: u108 :: u109 :: u110 :: u111 :: u112 :: u113 :: u114 :: u115 :: u116 :: u117 :: u118 :: u119 :: u120 :: u121 :: u122 :: u123 :: u124 :: u125 :: u126 :: u127 :: u128 :: u129 :: u130 :: u131 :: u132 :: u133 :: u134 :: u135 :: u136 :: u137 :: u138 :: u139 :: u140 :: u141 :: u142 :: u143 :: u144 :: u145 :: u146 :: u147 :: u148 :: u149 :: u150 :: u151 :: u152 :: c153 :: []), []⟩ W)) :
    (Code.loop body_swb).wp Tryd.prog Q ⟨List.toArray ((.slice Al xss.length cl) :: (.slice Au us.length cu) :: vf :: c3 :: c4 :: c5 :: c6 :: c7 :: dp :: (.pointer (some X)) :: c10 :: (.slice none 0 0) :: (.bool false) :: (.int .i64 0) :: c14 :: c15 :: c16 :: c17 :: c18 :: c19 :: c20 :: c21 :: c22 :: c23 :: c24 :: c25 :: c26 :: c27 :: c28 :: c29 :: c30 :: c31 :: c32 :: c33 :: c34 :: c35 :: c36 :: c37 :: c38 :: c39 :: c40 :: c41 :: c42 :: c43 :: c44 :: c45 :: c46 :: c47 :: c48 :: c49 :: c50 :: c51 :: c52 :: c53 :: c54 :: c55 :: c56 :: c57 :: c58 :: c59 :: c60 :: c61 :: c62 :: c63 :: c64 :: c65 :: c66 :: c67 :: c68 :: c69 :: c70 :: c71 :: c72 :: c73 :: c74 :: c75 :: c76 :: c77 :: c78 :: c79 :: c80 :: c81 :: c82 :: c83 :: c84 :: c85 :: c86 :: c87 :: c88 :: c89 :: c90 :: c91 :: c92 :: c93 :: c94 :: c95 :: c96 :: c97 :: c98 :: c99 :: c100 :: c101 :: c102 :: c103 :: c104 :: c105 :: c106 :: c107 :: c108 :: c109 :: c110 :: c111 :: c112 :: c113 :: c114 :: c115 :: c116 :: c117 :: c118 :: c119 :: c120 :: c121 :: c122 :: c123 :: c124 :: c125 :: c126 :: c127 :: c128 :: c129 :: c130 :: c131 :: c132 :: c133 :: c134 :: c135 :: c136 :: c137 :: c138 :: c139 :: c140 :: c141 :: c142 :: c143 :: c144 :: c145 :: c146 :: c147 :: c148 :: c149 :: c150 :: c151 :: c152 :: c153 :: []), []⟩ W0 := by
  unfold body_swb
  conv => arg 2; arg 1; whnf
  go_loopw [11, 12, 13] (fun vl vs v wx => SwbRel SC xss.length (.pointer (some X)) dp w vl vs v wx) (fun _ _ v _ => xss.length - (intOf v).toNat)
  case atStart => exact ⟨0, newS, false, [], rfl, Nat.zero_le _, rfl, h0.out, calm_new, by rw [most_new]; exact Nat.le_refl _, Nat.le_refl _, load_new0 fp8 0 6⟩
  case round =>
    obtain ⟨i, S, sm, lb, rfl, hi, rfl, hkp, hcm, hmo, hop, hld⟩ := hrel
    have nI : (xss.length : Int) ≤ 8 := by have := hn.out.1; omega
    have uI : (us.length : Int) ≤ 8 := by have := hn.out.2.1; omega
    by_cases hlt : i < xss.length
    · have hI : (i : Int) < xss.length := by omega
      obtain ⟨A, c, e, _, hrow⟩ := hl.out.ex
      injection e with e1 _ e2
      obtain ⟨g, o, ui, hA, hg, cui, hui, h9⟩ := hrow i hlt
      obtain rfl : Al = some ⟨g, o, none⟩ := e1.trans hA
      obtain ⟨bs, hbs⟩ : ∃ bs, bs = xss[i] := ⟨_, rfl⟩
      have hb6 : bs.length ≤ 600 := by rw [hbs]; exact hn.out.2.2.2 i hlt
      rw [← hbs] at hui
      have HX : Hid (∀ h : i < xss.length, xss[i] = bs) := Lib.hid fun _ => hbs.symm
      obtain ⟨Ab, kb, rfl, hk1, hk2, _⟩ := hui.form
      have HLW : Hid (∀ W, Below w.heap.size w W → W.cell? ⟨g, o + i, none⟩ = some (.slice Ab bs.length kb) ∧ Rd W (.slice Ab bs.length kb) bs) := Lib.hid fun W hW => ⟨(hW.cell (p := ⟨g, o + i, none⟩) hg).trans cui, hui.below hW⟩
      have HUI := Lib.hid hui
      have HB6 := Lib.hid hb6
      have HLT := Lib.hid hlt
      have HPU : Hid (((saveS fp8 S 0 6 bs false).2 = (saveS fp8 S 0 6 bs false).2) ∧ i ≤ 8) := Lib.hid ⟨rfl, by have := hn.out.1; omega⟩
      have HLD := Lib.hid hld
      have HOP := Lib.hid hop
      by_cases hfu : i < us.length
      case' pos =>
        have hfI : (i : Int) < us.length := by omega
        obtain ⟨b, off, rfl, cb1, hx⟩ : ∃ b off, Au = some ⟨b, off, none⟩ ∧ wr.cell? ⟨b, off + i, none⟩ = some (.int .u8 ((us[i]'hfu).toNat : Int)) ∧ (us[i]'hfu).toNat < 256 := by
          rcases hu.out.below hkp.old with ⟨_, _, _, _, _, h4⟩ | ⟨b, off, _, e1, h2, _, _, h5⟩
          · rw [h4] at hfu
            cases hfu
          · injection e1 with e1 _ _
            exact ⟨b, off, e1, h5 _ hfu, (us[i]'hfu).toNat_lt⟩
        obtain ⟨y, hy⟩ : ∃ y : Nat, y = (us[i]'hfu).toNat := ⟨_, rfl⟩
        rw [← hy] at cb1 hx
        obtain ⟨z, hz⟩ : ∃ z : Nat, z = y % 10 := ⟨_, rfl⟩
        have e10 : Int.tmod (y : Int) 10 = (z : Int) := by rw [hz]; rfl
        have zI : (z : Int) < 10 := by omega
        have HKF := Lib.hid (keep_fuse hkp (z : Int) (WalkArith.wf_i64 (by omega)))
        have HF0 : Hid (Calm (fuseS S (z : Int)).1 ∧ mostS (fuseS S (z : Int)).1 0 6 ≤ i ∧ (fuseS S (z : Int)).1.ops ≤ 10 * i ∧ loadS fp8 (fuseS S (z : Int)).1 0 6 = loadS fp8 S 0 6) := Lib.hid (by
          have e : (fuseS S (z : Int)).1 = { S with fuse := (z : Int).toNat } := by
            unfold fuseS
            rw [if_neg (by rw [hcm.on]; decide)]
          rw [e]
          exact ⟨⟨hcm.on, hcm.shut, hcm.opn, ⟨hcm.ok.low, hcm.ok.rise, hcm.ok.full⟩⟩, hmo, hop, rfl⟩)
        have CL := Lib.hid (fun (W : World) (h : Below w.heap.size w W) => (HLW.out W h).1)
        clear hkp hcm hmo hop hld hi hlt hrow e1 e2 hA hg cui hui h9 hbs hb6 hk1 hk2 hy hz
        go_wp2_with (fail)
        refine HKF.out.mono ?_
        rintro e w1 ⟨⟨cf, rfl⟩, hk1⟩
        have K1 := Lib.hid hk1
        have cl1 := (HLW.out w1 hk1.old).1
        obtain ⟨T, hT⟩ : ∃ T : DS, T = (fuseS S (z : Int)).1 := ⟨_, rfl⟩
        rw [← hT] at K1 HF0
        clear hk1 hT HKF CL
        go_wp2_with (fail)
      case' neg =>
        have hfI : ¬ (i : Int) < us.length := by omega
        have K1 := Lib.hid hkp
        have cl1 := (HLW.out wr hkp.old).1
        have HF1 : Hid (Calm S ∧ mostS S 0 6 ≤ i ∧ S.ops ≤ 10 * i ∧ loadS fp8 S 0 6 = loadS fp8 S 0 6) := Lib.hid ⟨hcm, hmo, hop, rfl⟩
        obtain ⟨w1, hw1⟩ : ∃ w1, w1 = wr := ⟨_, rfl⟩
        subst hw1
        obtain ⟨T, hT⟩ : ∃ T : DS, T = S := ⟨_, rfl⟩
        rw [← hT] at K1
        have HF0 : Hid (Calm T ∧ mostS T 0 6 ≤ i ∧ T.ops ≤ 10 * i ∧ loadS fp8 T 0 6 = loadS fp8 S 0 6) := Lib.hid (by rw [hT]; exact HF1.out)
        clear HF1
        clear hkp hcm hmo hop hld hi hlt hrow e1 e2 hA hg cui hui h9 hbs hb6 hk1 hk2 hT
        go_wp2_with (fail)
      all_goals
        obtain ⟨hcT, hmT, hoT, hlT⟩ := HF0.out
        have i8 := HPU.out.2
        obtain ⟨hcase, hcS, hmS, hoS⟩ := round_pure hcT hmT i8 HB6.out fs
        refine (keep_save K1.out hs.out HUI.out HB6.out hcT.on (by omega) (by omega)).mono ?_
        rintro e w2 ⟨n2, rfl, hk2⟩
        obtain ⟨T1, ec, hT1⟩ : ∃ T1 ec, saveS fp8 T 0 6 bs false = (T1, ec) := ⟨_, _, rfl⟩
        rw [hT1] at hcase hcS hmS hoS hk2 ⊢
        have hcase : (ec = 0 ∧ T1.dead = false ∧ ∃ N t, loadS fp8 (bootS T1 fs) 0 6 = some (bs, N, t)) ∨ (ec = 10 ∧ T1.dead = true ∧ ((∃ N t, loadS fp8 (bootS T1 fs) 0 6 = some (bs, N, t)) ∨ loadS fp8 (bootS T1 fs) 0 6 = loadS fp8 S 0 6)) := by
          rw [← hlT]
          exact hcase
        have HK2 := Lib.hid hk2
        have HCS : Hid (Calm (bootS T1 fs) ∧ mostS (bootS T1 fs) 0 6 ≤ i + 1 ∧ (bootS T1 fs).ops ≤ 10 * (i + 1)) := Lib.hid ⟨hcS, hmS, by show T1.ops ≤ _; have hoS : T1.ops ≤ T.ops + 7 := hoS; omega⟩
        clear hcT hmT hoT hlT i8 hcS hmS hoS hk2 hT1 K1 HF0 cl1
        rcases hcase with ⟨rfl, hdd, hnew⟩ | ⟨rfl, hdd, hnew⟩
        all_goals
          have HDD := Lib.hid hdd
          clear hdd
          go_wp2_with (fail)
          refine (keep_dead HK2.out).mono ?_
          rintro e w3 ⟨rfl, hk3⟩
          rw [HDD.out]
          have K3 := Lib.hid hk3
          clear hk3 HK2
          go_wp2_with (fail)
          refine (keep_boot K3.out hf.out (by have := hn.out.2.2.1; omega)).mono ?_
          rintro e w4 ⟨rfl, hk4⟩
          have K4 := Lib.hid hk4
          clear hk4 K3
          go_wp2_with (fail)
          refine (keep_load K4.out hs.out).mono ?_
          rintro e w5 ⟨hans, hb5⟩
        · obtain ⟨N, t, hN⟩ := hnew
          rw [hN] at hans
          obtain ⟨u, rfl, hu5, hfr⟩ := hans
          have HNW : Hid (LoadIs (bootS T1 fs) true bs) := Lib.hid ⟨N, t, hN⟩
          have K5 := Lib.hid (K4.out.loaded hb5 hu5 hfr)
          have R5 := Lib.hid (K4.out.rd.below hb5)
          have cl5 := (HLW.out w5 K5.out.old).1
          have RB5 := Lib.hid (HLW.out w5 K5.out.old).2
          clear hN hu5 hfr hb5 K4
          cases sm
          case false =>
            go_wp2_with (fail)
            refine (same_any _ _ bs bs w5 K5.out.rd RB5.out).mono ?_
            rintro e w7 ⟨rfl, nq, hw7⟩
            rw [decide_eq_true (rfl : bs = bs)]
            have K7 := Lib.hid (K5.out.on (hw7 ▸ below_drewN (Below.refl _ _) nq))
            clear hw7
            go_wp2_with (fail)
            have hlt := HLT.out
            exact ⟨⟨i + 1, bootS T1 fs, true, bs, by go_num, by omega, rfl, K7.out, HCS.out.1, HCS.out.2.1, HCS.out.2.2, HNW.out⟩, by simp [intOf]; omega⟩
          case true =>
            go_wp2_with (fail)
            refine (same_any _ _ bs lb w5 K5.out.rd R5.out).mono ?_
            rintro e w6 ⟨rfl, nq, hw6⟩
            have K6 := Lib.hid (K5.out.on (hw6 ▸ below_drewN (Below.refl _ _) nq))
            have cl6 := (HLW.out w6 K6.out.old).1
            have RB6 := Lib.hid (HLW.out w6 K6.out.old).2
            clear hw6 cl5 RB5 R5 K5
            obtain ⟨q1, hq1⟩ : ∃ q1, q1 = decide (bs = lb) := ⟨_, rfl⟩
            rw [← hq1]
            clear hq1
            cases q1
            all_goals
              go_wp2_with (fail)
              refine (same_any _ _ bs bs w6 K6.out.rd RB6.out).mono ?_
              rintro e w7 ⟨rfl, nq2, hw7⟩
              rw [decide_eq_true (rfl : bs = bs)]
              have K7 := Lib.hid (K6.out.on (hw7 ▸ below_drewN (Below.refl _ _) nq2))
              clear hw7
              go_wp2_with (fail)
              have hlt := HLT.out
              exact ⟨⟨i + 1, bootS T1 fs, true, bs, by go_num, by omega, rfl, K7.out, HCS.out.1, HCS.out.2.1, HCS.out.2.2, HNW.out⟩, by simp [intOf]; omega⟩
        · rcases hnew with hnew | hold
          · obtain ⟨N, t, hN⟩ := hnew
            rw [hN] at hans
            obtain ⟨u, rfl, hu5, hfr⟩ := hans
            have HNW : Hid (LoadIs (bootS T1 fs) true bs) := Lib.hid ⟨N, t, hN⟩
            have K5 := Lib.hid (K4.out.loaded hb5 hu5 hfr)
            have R5 := Lib.hid (K4.out.rd.below hb5)
            have cl5 := (HLW.out w5 K5.out.old).1
            have RB5 := Lib.hid (HLW.out w5 K5.out.old).2
            clear hN hu5 hfr hb5 K4
            cases sm
            case false =>
              go_wp2_with (fail)
              refine (same_any _ _ bs bs w5 K5.out.rd RB5.out).mono ?_
              rintro e w7 ⟨rfl, nq, hw7⟩
              rw [decide_eq_true (rfl : bs = bs)]
              have K7 := Lib.hid (K5.out.on (hw7 ▸ below_drewN (Below.refl _ _) nq))
              clear hw7
              go_wp2_with (fail)
              have hlt := HLT.out
              exact ⟨⟨i + 1, bootS T1 fs, true, bs, by go_num, by omega, rfl, K7.out, HCS.out.1, HCS.out.2.1, HCS.out.2.2, HNW.out⟩, by simp [intOf]; omega⟩
            case true =>
              go_wp2_with (fail)
              refine (same_any _ _ bs lb w5 K5.out.rd R5.out).mono ?_
              rintro e w6 ⟨rfl, nq, hw6⟩
              have K6 := Lib.hid (K5.out.on (hw6 ▸ below_drewN (Below.refl _ _) nq))
              have cl6 := (HLW.out w6 K6.out.old).1
              have RB6 := Lib.hid (HLW.out w6 K6.out.old).2
              clear hw6 cl5 RB5 R5 K5
              obtain ⟨q1, hq1⟩ : ∃ q1, q1 = decide (bs = lb) := ⟨_, rfl⟩
              rw [← hq1]
              clear hq1
              cases q1
              all_goals
                go_wp2_with (fail)
                refine (same_any _ _ bs bs w6 K6.out.rd RB6.out).mono ?_
                rintro e w7 ⟨rfl, nq2, hw7⟩
                rw [decide_eq_true (rfl : bs = bs)]
                have K7 := Lib.hid (K6.out.on (hw7 ▸ below_drewN (Below.refl _ _) nq2))
                clear hw7
                go_wp2_with (fail)
                have hlt := HLT.out
                exact ⟨⟨i + 1, bootS T1 fs, true, bs, by go_num, by omega, rfl, K7.out, HCS.out.1, HCS.out.2.1, HCS.out.2.2, HNW.out⟩, by simp [intOf]; omega⟩
          · rw [hold] at hans
            have HOL := Lib.hid hold
            clear hold
            cases sm
            case false =>
              have hz : loadS fp8 S 0 6 = none := HLD.out
              rw [hz] at hans
              obtain ⟨u, nu, rfl⟩ := hans
              have HNW : Hid (LoadIs (bootS T1 fs) false lb) := Lib.hid (HOL.out.trans hz)
              have K5 := Lib.hid (K4.out.on hb5)
              clear hz hb5 K4
              go_wp2_with (fail)
              have hlt := HLT.out
              exact ⟨⟨i + 1, bootS T1 fs, false, lb, by go_num, by omega, rfl, K5.out, HCS.out.1, HCS.out.2.1, HCS.out.2.2, HNW.out⟩, by simp [intOf]; omega⟩
            case true =>
              obtain ⟨N, t, hN⟩ : ∃ N t, loadS fp8 S 0 6 = some (lb, N, t) := HLD.out
              rw [hN] at hans
              obtain ⟨u, rfl, hu5, hfr⟩ := hans
              have HNW : Hid (LoadIs (bootS T1 fs) true lb) := Lib.hid ⟨N, t, HOL.out.trans hN⟩
              have K5 := Lib.hid (K4.out.loaded hb5 hu5 hfr)
              have R5 := Lib.hid (K4.out.rd.below hb5)
              clear hN hu5 hfr hb5 K4
              go_wp2_with (fail)
              refine (same_any _ _ lb lb w5 K5.out.rd R5.out).mono ?_
              rintro e w6 ⟨rfl, nq, hw6⟩
              rw [decide_eq_true (rfl : lb = lb)]
              have K6 := Lib.hid (K5.out.on (hw6 ▸ below_drewN (Below.refl _ _) nq))
              have cl6 := (HLW.out w6 K6.out.old).1
              have RB6 := Lib.hid (HLW.out w6 K6.out.old).2
              clear hw6 R5 K5
              go_wp2_with (fail)
              refine (same_any _ _ lb bs w6 K6.out.rd RB6.out).mono ?_
              rintro e w7 ⟨rfl, nq2, hw7⟩
              have K7 := Lib.hid (K6.out.on (hw7 ▸ below_drewN (Below.refl _ _) nq2))
              obtain ⟨q1, hq1⟩ : ∃ q1, q1 = decide (lb = bs) := ⟨_, rfl⟩
              rw [← hq1]
              clear hw7 hq1
              cases q1
              all_goals
                go_wp2_with (fail)
                have hlt := HLT.out
                exact ⟨⟨i + 1, bootS T1 fs, true, lb, by go_num, by omega, rfl, K7.out, HCS.out.1, HCS.out.2.1, HCS.out.2.2, HNW.out⟩, by simp [intOf]; omega⟩
    · obtain rfl : i = xss.length := by omega
      have HB := Lib.hid hkp.old
      clear hkp hcm hmo hop hld hi hlt
      go_wp2_with (fail)
      exact HQ.out _ _ _ _ _ _ _ _ _ _ _ _ _ _ _ _ _ _ _ _ _ _ _ _ _ _ _ _ _ _ _ _ _ _ _ _ _ _ _ _ _ _ _ _ _ _ _ _ _ _ _ _ _ _ _ _ _ _ _ _ _ _ _ _ _ _ _ _ _ _ _ _ _ _ _ _ _ _ _ _ _ _ _ _ _ _ _ _ _ _ _ _ _ _ _ _ _ _ _ _ _ _ _ _ _ _ _ _ _ _ _ HB
end Go.Proofs.YtnaccngcpjkmbaaDoor
