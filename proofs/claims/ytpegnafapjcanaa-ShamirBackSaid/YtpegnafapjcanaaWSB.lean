/- The walk of 'ShamirBack' (law 8): any t or more of a secret's shares, refreshed or not, are put together to it. Premises: the contracts of shamir's Split, Refresh and Combine. -/
import Derived.Test.YtpegnafapjcanaaWSBA
import Derived.Test.YtpegnafapjcanaaPick
namespace Go.Proofs.Ytpegnafapjcanaa.shamirBack
open Go.RowKit

set_option maxRecDepth 100000 in
set_option maxHeartbeats 4000000 in
theorem walkC (HS : SplitC) (HRf : RefrC) (HC : CombC) (sec : List UInt8) (a1 a2 : Int) (v3 : Value) (draws : List UInt8) (v4 : Value) (more : List UInt8) (a5 a6' : Int) (w : World) (l0 : sec.length = 32) (_k1 : (Lit.int .i64 a1).wf = true) (_k2 : (Lit.int .i64 a2).wf = true) (k3 : Rd w v3 draws) (k4 : Rd w v4 more) (k5 : (Lit.int .i64 a5).wf = true) (k6 : (Lit.int .u8 a6').wf = true) :
    Calls Try.prog 5 #[.agg (sec.map bv).toArray, .int .i64 a1, .int .i64 a2, v3, v4, .int .i64 a5, .int .u8 a6'] w fun e w' => e = .returned (.bool true) ∧ Below w.heap.size w w' := by
  have HK5 := Lib.hid k5
  have hb6 := bounds_u8 k6
  obtain ⟨a6, rfl⟩ : ∃ m : Nat, a6' = (m : Int) := ⟨a6'.toNat, by omega⟩
  have HA6 : Hid (a6 < 256) := Lib.hid (by omega)
  have aI : (a6 : Int) < 256 := by omega
  have HL := Lib.hid l0
  obtain ⟨Ad, cd, rfl, _, hcd, _⟩ := k3.form
  obtain ⟨Ad4, c4, rfl, _, hc4, _⟩ := k4.form
  unfold maxLen at hcd hc4
  have HR3 := Lib.hid k3
  have HR4 := Lib.hid k4
  have HSL : Hid ((sec.map bv).length = 32) := Lib.hid (by rw [List.length_map, l0])
  have HIK : Hid ((Try.prog.info? 23).map (·.size) = some 32) := Lib.hid (size_of info_key)
  obtain ⟨W0, hW0⟩ : ∃ W : World, W = w.alloc (.cells (sec.map bv).toArray 23) := ⟨_, rfl⟩
  have D0 : Hid (Below w.heap.size w W0) := Lib.hid (by rw [hW0]; exact (Below.refl _ _).alloc (Nat.le_refl _) _)
  have P0 : Hid (Blk W0 w.heap.size 23 (sec.map bv)) := Lib.hid (by rw [hW0]; exact Blk.made w _ _)
  clear l0 k3 k4 k5 k6 hb6
  by_cases h1 : a1 < 1
  · go_enter Try.func5, Try.ntmps5
    go_upto_region 1 with (refine Go.Great.wpList_boxTo rfl _ _ rfl _ rfl w.heap.size rfl ((sec.map bv).toArray) rfl ?_)
    rw [← hW0]
    clear hW0
    go_wp2_with (fail)
    refine (shamAwake_any HS _).mono ?_
    rintro e w3 ⟨rfl, hb3⟩
    go_wp2_with (fail)
    go_ret
    exact ⟨rfl, D0.out.trans (hb3.mono D0.out.size)⟩
  have g1 : decide (a1 < 1) = false := decide_eq_false h1
  by_cases h2 : 8 < a1
  · go_enter Try.func5, Try.ntmps5
    go_upto_region 1 with (refine Go.Great.wpList_boxTo rfl _ _ rfl _ rfl w.heap.size rfl ((sec.map bv).toArray) rfl ?_)
    rw [← hW0]
    clear hW0
    go_wp2_with (fail)
    refine (shamAwake_any HS _).mono ?_
    rintro e w3 ⟨rfl, hb3⟩
    go_wp2_with (fail)
    go_ret
    exact ⟨rfl, D0.out.trans (hb3.mono D0.out.size)⟩
  have g2 : decide (8 < a1) = false := decide_eq_false h2
  by_cases h3 : a2 < 1
  · go_enter Try.func5, Try.ntmps5
    go_upto_region 1 with (refine Go.Great.wpList_boxTo rfl _ _ rfl _ rfl w.heap.size rfl ((sec.map bv).toArray) rfl ?_)
    rw [← hW0]
    clear hW0
    go_wp2_with (fail)
    refine (shamAwake_any HS _).mono ?_
    rintro e w3 ⟨rfl, hb3⟩
    go_wp2_with (fail)
    go_ret
    exact ⟨rfl, D0.out.trans (hb3.mono D0.out.size)⟩
  have g3 : decide (a2 < 1) = false := decide_eq_false h3
  by_cases h4 : a1 < a2
  · go_enter Try.func5, Try.ntmps5
    go_upto_region 1 with (refine Go.Great.wpList_boxTo rfl _ _ rfl _ rfl w.heap.size rfl ((sec.map bv).toArray) rfl ?_)
    rw [← hW0]
    clear hW0
    go_wp2_with (fail)
    refine (shamAwake_any HS _).mono ?_
    rintro e w3 ⟨rfl, hb3⟩
    go_wp2_with (fail)
    go_ret
    exact ⟨rfl, D0.out.trans (hb3.mono D0.out.size)⟩
  have g4 : decide (a1 < a2) = false := decide_eq_false h4
  by_cases h5 : (300 : Int) < (draws.length : Int)
  · go_enter Try.func5, Try.ntmps5
    go_upto_region 1 with (refine Go.Great.wpList_boxTo rfl _ _ rfl _ rfl w.heap.size rfl ((sec.map bv).toArray) rfl ?_)
    rw [← hW0]
    clear hW0
    go_wp2_with (fail)
    refine (shamAwake_any HS _).mono ?_
    rintro e w3 ⟨rfl, hb3⟩
    go_wp2_with (fail)
    go_ret
    exact ⟨rfl, D0.out.trans (hb3.mono D0.out.size)⟩
  have g5 : decide ((300 : Int) < (draws.length : Int)) = false := decide_eq_false h5
  by_cases h6 : (300 : Int) < (more.length : Int)
  · go_enter Try.func5, Try.ntmps5
    go_upto_region 1 with (refine Go.Great.wpList_boxTo rfl _ _ rfl _ rfl w.heap.size rfl ((sec.map bv).toArray) rfl ?_)
    rw [← hW0]
    clear hW0
    go_wp2_with (fail)
    refine (shamAwake_any HS _).mono ?_
    rintro e w3 ⟨rfl, hb3⟩
    go_wp2_with (fail)
    go_ret
    exact ⟨rfl, D0.out.trans (hb3.mono D0.out.size)⟩
  have g6 : decide ((300 : Int) < (more.length : Int)) = false := decide_eq_false h6
  obtain ⟨n, rfl⟩ : ∃ n : Nat, a1 = (n : Int) := ⟨a1.toNat, by omega⟩
  obtain ⟨t, rfl⟩ : ∃ t : Nat, a2 = (t : Int) := ⟨a2.toNat, by omega⟩
  have g7 : decide (n < t) = false := decide_eq_false (by omega)
  have nI : (n : Int) ≤ 8 := by omega
  have tI : (t : Int) ≤ n := by omega
  have HT1 : Hid (1 ≤ t) := Lib.hid (by omega)
  have HTN : Hid (t ≤ n) := Lib.hid (by omega)
  have HN8 : Hid (n ≤ 8) := Lib.hid (by omega)
  have HLD : Hid (draws.length ≤ 300) := Lib.hid (by omega)
  have HLM : Hid (more.length ≤ 300) := Lib.hid (by omega)
  clear h1 h2 h3 h4 h5 h6
  go_enter Try.func5, Try.ntmps5
  go_upto_region 1 with (refine Go.Great.wpList_boxTo rfl _ _ rfl _ rfl w.heap.size rfl ((sec.map bv).toArray) rfl ?_)
  rw [← hW0]
  clear hW0
  go_wp2_with (first
    | (refine wpList_load_blk rfl 23 (.tmp 7) rfl w.heap.size rfl 23 (sec.map bv) _ P0.out Try.underlying23 rfl (by rw [HSL.out]; exact HIK.out) ?_))
  refine (HS sec n t _ draws W0 HL.out HT1.out HTN.out (by have := HN8.out; omega) (HR3.out.below D0.out) (by have := HLD.out; omega)).mono ?_
  rintro e w2 ⟨s, rfl, hr, hb⟩
  obtain ⟨A, c, rfl, _, _, _⟩ := hr.form
  have D2 : Hid (Below w.heap.size w w2) := Lib.hid (D0.out.trans (hb.mono D0.out.size))
  have P2 : Hid (Blk w2 w.heap.size 23 (sec.map bv)) := Lib.hid (P0.out.below hb P0.out.lt)
  rw [splitB_length] at hr ⊢
  have G2 : Hid (shamirBack.Good n t sec w2 (.slice A n c) (splitB sec n t draws)) := Lib.hid ⟨hr, splitB_length .., Row8.split sec HN8.out t draws, splitB_on sec n HT1.out draws⟩
  clear hr hb
  go_wp2_with (fail)
  refine bka_loop HRf _ _ _ _ _ _ _ _ _ _ _ _ _ _ _ _ _ _ _ _ _ _ _ _ _ _ _ _ _ _ _ _ _ _ _ _ _ _ _ _ _ _ _ _ _ _ _ _ _ _ _ _ _ _ _ _ _ _ _ _ _ _ _ _ _ _ _ _ _ _ _ _ _ _ _ _ _ _ _ _ _ _ _ _ _ _ _ _ _ _ _ _ _ _ _ _ _ _ _ _ _ _ _ _ _ _ _ _ _ _ _ _ _ n t a6 c4 c Ad4 A sec more (splitB sec n t draws) w2 HN8.out HT1.out HTN.out HA6.out HLM.out (Lib.hid (HR4.out.below D2.out)) G2 (Lib.hid ?_)
  intro u17 u57 u58 u59 u60 u61 u62 u63 u64 u65 u66 u67 u68 u69 u70 u71 u72 u73 u74 A3 c3 L w3 G3 B3
  have D3 : Hid (Below w.heap.size w w3) := Lib.hid (D2.out.trans (B3.out.mono D2.out.size))
  have P3 : Hid (Blk w3 w.heap.size 23 (sec.map bv)) := Lib.hid (P2.out.below B3.out P2.out.lt)
  obtain ⟨_, _, he, _, _, hA⟩ := G3.out.1.form
  obtain ⟨b, off, e', _, _⟩ := hA (by rw [G3.out.2.1]; have := HT1.out; have := HTN.out; omega)
  simp only [Value.slice.injEq] at he
  obtain ⟨he, -, -⟩ := he
  rw [e'] at he
  subst he
  clear e' hA G2 P2 B3
  go_wp2_with (fail)
  refine (pick_any a5 n w3 HK5.out (by have := HT1.out; have := HTN.out; omega) (by have := HN8.out; omega)).mono ?_
  rintro e w4 ⟨⟨k, rfl, hk⟩, rfl⟩
  have HK := Lib.hid hk
  clear hk
  go_wp2_with (fail)
  refine bkb_loop HC _ _ _ _ _ _ _ _ _ _ _ _ _ _ _ _ _ _ _ _ _ _ _ _ _ _ _ _ _ _ _ _ _ _ _ _ _ _ _ _ _ _ _ _ _ _ _ _ _ _ _ _ _ _ _ _ _ _ _ _ _ _ _ _ _ _ _ _ _ _ _ _ _ _ _ _ _ _ _ _ _ _ _ _ _ _ _ _ _ _ _ _ _ _ _ _ _ _ _ _ _ _ _ _ _ _ _ _ _ _ _ _ n t k w.heap.size b off c3 sec L w3 HL.out (by have := HT1.out; have := HTN.out; omega) HT1.out HTN.out HK.out G3 P3 (Lib.hid ?_)
  intro u14 u19 u20 u21 u22 u86 u87 u88 u89 u90 u91 u92 u93 u94 u95 u96 u97 u98 u99 u100 u101 u102 u103 u104 u105 u106 u107 u108 u109 u110 u111 u112 u113 u114 u115 u116 u117 wx BX
  go_wp2_with (fail)
  refine (shamAwake_any HS _).mono ?_
  rintro e w6 ⟨rfl, hb6⟩
  go_wp2_with (fail)
  go_ret
  exact ⟨rfl, (D3.out.trans (BX.out.mono D3.out.size)).trans (hb6.mono (Nat.le_trans D3.out.size BX.out.size))⟩
end Go.Proofs.Ytpegnafapjcanaa.shamirBack
