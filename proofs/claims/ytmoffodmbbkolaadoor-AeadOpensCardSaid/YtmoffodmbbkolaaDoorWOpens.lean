/- The walk of 'AeadOpens' (law 6): any bytes are opened as the document says, or refused; what is opened is sealed as these bytes. Premises: the contracts of aead's Seal and Open; the table of the places as it is laid. -/
import Derived.Test.YtmoffodmbbkolaaDoorPart25
import Derived.Test.YtmoffodmbbkolaaDoorPart5
import Derived.Test.YtmoffodmbbkolaaDoorPart3
import Derived.Deep.Cut
namespace Go.Proofs.YtmoffodmbbkolaaDoor.aeadOpens
open Go.RowKit

set_option maxRecDepth 100000 in
set_option maxHeartbeats 2000000 in
theorem walkC (HS : SealC) (HO : OpenC) (x0 x1 : List UInt8) (v2 : Value) (x2 : List UInt8) (v3 : Value) (x3 : List UInt8) (w : World) (l0 : x0.length = 32) (l1 : x1.length = 12) (k2 : Rd w v2 x2) (k3 : Rd w v3 x3) (hk : Qs w) :
    Calls Tryd.prog 4 #[.agg (x0.map bv).toArray, .agg (x1.map bv).toArray, v2, v3] w fun e w' => e = .returned (.bool true) ∧ Below w.heap.size w w' := by
  obtain ⟨A2, c2, rfl, _, hc2, _⟩ := k2.form
  obtain ⟨A3, c3, rfl, _, hc3, _⟩ := k3.form
  have HIK : Hid ((Tryd.prog.info? 23).map (·.size) = some 32) := by show _ = _; kernel_rfl
  have HIN : Hid ((Tryd.prog.info? 25).map (·.size) = some 12) := by show _ = _; kernel_rfl
  unfold maxLen at hc2 hc3
  obtain ⟨kcs, hkc⟩ : ∃ cs, cs = x0.map bv := ⟨_, rfl⟩
  obtain ⟨ncs, hnc⟩ : ∃ cs, cs = x1.map bv := ⟨_, rfl⟩
  have HKM : Hid (kcs.length = 32) := by show _ = _; rw [hkc, List.length_map, l0]
  have HNM : Hid (ncs.length = 12) := by show _ = _; rw [hnc, List.length_map, l1]
  have HEK : Hid (arrV x0 = .agg kcs.toArray) := Lib.hid (by rw [hkc]; rfl)
  have HEN : Hid (arrV x1 = .agg ncs.toArray) := Lib.hid (by rw [hnc]; rfl)
  have L0 := Lib.hid l0
  have L1 := Lib.hid l1
  rw [← hkc, ← hnc]
  obtain ⟨W0, hW0⟩ : ∃ W : World, W = (w.alloc (.cells kcs.toArray 23)).alloc (.cells ncs.toArray 25) := ⟨_, rfl⟩
  have D0 : Hid (Below w.heap.size w W0) := Lib.hid (by rw [hW0]; exact (((Below.refl _ _).alloc (Nat.le_refl _) _).alloc (by simp) _))
  have K0 : Hid (Blk W0 w.heap.size 23 kcs) := Lib.hid (by rw [hW0]; exact (Blk.made w _ _).alloc _)
  have N0 : Hid (Blk W0 (w.heap.size + 1) 25 ncs) := Lib.hid (by
    have h := Blk.made (w.alloc (.cells kcs.toArray 23)) 25 ncs
    rw [World.size_alloc] at h
    rw [hW0]
    exact h)
  have HQ0 := Lib.hid hk
  have R2 := Lib.hid k2
  have R3 := Lib.hid k3
  clear hkc hnc l0 l1 k2 k3 hk
  by_cases h3 : 200 < x3.length
  · have lI : (200 : Int) < (x3.length : Int) := by omega
    subst hW0
    go_enter Tryd.func4, Tryd.ntmps4
    go_wp2_with (first
      | refine Go.Great.wpList_boxTo rfl _ _ rfl _ rfl w.heap.size rfl (kcs.toArray) rfl ?_
      | refine Go.Great.wpList_boxTo rfl _ _ rfl _ rfl (w.heap.size + 1) (by simp) (ncs.toArray) rfl ?_)
    refine (aeadAwake_any HS _ (HQ0.out.below D0.out)).mono ?_
    rintro e w3 ⟨rfl, hb3⟩
    go_wp2_with (fail)
    go_ret
    exact ⟨rfl, D0.out.trans (hb3.mono D0.out.size)⟩
  have lI3 : (x3.length : Int) ≤ 200 := by omega
  have d3 : decide ((200 : Int) < (x3.length : Int)) = false := decide_eq_false (by omega)
  by_cases h2 : 100 < x2.length
  · have lI : (100 : Int) < (x2.length : Int) := by omega
    subst hW0
    go_enter Tryd.func4, Tryd.ntmps4
    go_wp2_with (first
      | refine Go.Great.wpList_boxTo rfl _ _ rfl _ rfl w.heap.size rfl (kcs.toArray) rfl ?_
      | refine Go.Great.wpList_boxTo rfl _ _ rfl _ rfl (w.heap.size + 1) (by simp) (ncs.toArray) rfl ?_)
    refine (aeadAwake_any HS _ (HQ0.out.below D0.out)).mono ?_
    rintro e w3 ⟨rfl, hb3⟩
    go_wp2_with (fail)
    go_ret
    exact ⟨rfl, D0.out.trans (hb3.mono D0.out.size)⟩
  have lI2 : (x2.length : Int) ≤ 100 := by omega
  have d2 : decide ((100 : Int) < (x2.length : Int)) = false := decide_eq_false (by omega)
  have HL : Hid (x2.length ≤ 100 ∧ x3.length ≤ 200) := Lib.hid ⟨by omega, by omega⟩
  clear h2 h3
  go_enter Tryd.func4, Tryd.ntmps4
  go_upto_region 1 with (first
    | refine Go.Great.wpList_boxTo rfl _ _ rfl _ rfl w.heap.size rfl (kcs.toArray) rfl ?_
    | refine Go.Great.wpList_boxTo rfl _ _ rfl _ rfl (w.heap.size + 1) (by simp) (ncs.toArray) rfl ?_)
  rw [← hW0]
  clear hW0
  have R20 := Lib.hid (R2.out.below D0.out)
  have R30 := Lib.hid (R3.out.below D0.out)
  have hq0 := HQ0.out.below D0.out
  have Q0 := Lib.hid hq0
  clear hq0
  go_wp2_with (first
    | (refine wpList_load_blk rfl 23 (.tmp 4) rfl w.heap.size rfl 23 _ _ K0.out Tryd.underlying23 rfl (by rw [HKM.out]; exact HIK.out) ?_)
    | (refine wpList_load_blk rfl 25 (.tmp 5) rfl (w.heap.size + 1) rfl 25 _ _ N0.out Tryd.underlying25 rfl (by rw [HNM.out]; exact HIN.out) ?_))
  obtain ⟨E, hE⟩ : ∃ E, E = openE x0 x1 x2 x3 := ⟨_, rfl⟩
  obtain ⟨p, hp⟩ : ∃ p, p = openP x0 x1 x2 x3 := ⟨_, rfl⟩
  have HE := Lib.hid hE
  have HP := Lib.hid hp
  have HPL : Hid (p.length ≤ 200) := Lib.hid (by rw [hp]; have := openP_le x0 x1 x2 x3; have := HL.out; omega)
  have HCO : Hid (∀ V, Qs V → Rd V (.slice A2 x2.length c2) x2 → Rd V (.slice A3 x3.length c3) x3 → Calls Tryd.prog 10 #[.agg kcs.toArray, .agg ncs.toArray, .slice A2 x2.length c2, .slice A3 x3.length c3] V fun e V' => ∃ v, e = .returned (.tuple #[v, .int .i64 (E : Int)]) ∧ Rd V' v p ∧ Below V.heap.size V V') := Lib.hid fun V hq h2 h3 => by
    have h1 := HO x0 x1 _ _ x2 x3 V L0.out L1.out h2 h3 (by have := HL.out; omega) (by have := HL.out; omega) hq
    unfold Opened at h1
    rw [HEK.out, HEN.out, ← HE.out, ← HP.out] at h1
    exact h1
  have HCR : Hid (∀ V, Rd V (.slice A2 x2.length c2) x2 → Rd V (.slice A3 x3.length c3) x3 → Calls Tryd.prog 14 #[.agg kcs.toArray, .agg ncs.toArray, .slice A2 x2.length c2, .slice A3 x3.length c3] V fun e V' => ∃ v, e = .returned (.tuple #[v, .int .i64 (E : Int)]) ∧ Rd V' v p ∧ Below V.heap.size V V') := Lib.hid fun V h2 h3 => by
    have h1 := refOpen_any x0 x1 _ _ x2 x3 V L0.out L1.out h2 h3 (by have := HL.out; omega) (by have := HL.out; omega)
    unfold Opened at h1
    rw [HEK.out, HEN.out, ← HE.out, ← HP.out] at h1
    exact h1
  clear hE hp
  refine (HCO.out W0 Q0.out R20.out R30.out).mono ?_
  rintro e w1 ⟨v1, rfl, rp1, hb1⟩
  obtain ⟨Ap, cp, rfl, _, hcp, _⟩ := rp1.form
  unfold maxLen at hcp
  have RP1 := Lib.hid rp1
  have R21 := Lib.hid (R20.out.below hb1)
  have R31 := Lib.hid (R30.out.below hb1)
  have K1 := Lib.hid (K0.out.below hb1 K0.out.lt)
  have N1 := Lib.hid (N0.out.below hb1 N0.out.lt)
  have D1 : Hid (Below w.heap.size w w1) := Lib.hid (D0.out.trans (hb1.mono D0.out.size))
  clear rp1 hb1 R20 R30 K0 N0 D0 HCO Q0
  go_wp2_with (first
    | (refine wpList_load_blk rfl 23 (.tmp 4) rfl w.heap.size rfl 23 _ _ K1.out Tryd.underlying23 rfl (by rw [HKM.out]; exact HIK.out) ?_)
    | (refine wpList_load_blk rfl 25 (.tmp 5) rfl (w.heap.size + 1) rfl 25 _ _ N1.out Tryd.underlying25 rfl (by rw [HNM.out]; exact HIN.out) ?_))
  refine (HCR.out w1 R21.out R31.out).mono ?_
  rintro e w2 ⟨v2, rfl, rq2, hb2⟩
  obtain ⟨Aq, cq, rfl, _, hcq, _⟩ := rq2.form
  unfold maxLen at hcq
  have RQ2 := Lib.hid rq2
  have RP2 := Lib.hid (RP1.out.below hb2)
  have R22 := Lib.hid (R21.out.below hb2)
  have R32 := Lib.hid (R31.out.below hb2)
  have K2 := Lib.hid (K1.out.below hb2 K1.out.lt)
  have N2 := Lib.hid (N1.out.below hb2 N1.out.lt)
  have D2 : Hid (Below w.heap.size w w2) := Lib.hid (D1.out.trans (hb2.mono D1.out.size))
  clear rq2 hb2 R21 R31 K1 N1 D1 HCR RP1
  go_wp2_with (fail)
  refine (same_yes _ _ p w2 RP2.out RQ2.out).mono ?_
  rintro e w3 ⟨rfl, n3, rfl⟩
  obtain ⟨W3, hW3⟩ : ∃ W : World, W = w2.drewN n3 := ⟨_, rfl⟩
  have RP3 : Hid (Rd W3 (.slice Ap p.length cp) p) := Lib.hid (by rw [hW3]; exact RP2.out.drewN _)
  have R23 : Hid (Rd W3 (.slice A2 x2.length c2) x2) := Lib.hid (by rw [hW3]; exact R22.out.drewN _)
  have R33 : Hid (Rd W3 (.slice A3 x3.length c3) x3) := Lib.hid (by rw [hW3]; exact R32.out.drewN _)
  have K3 : Hid (Blk W3 w.heap.size 23 kcs) := Lib.hid (by rw [hW3]; exact K2.out.drewN _)
  have N3 : Hid (Blk W3 (w.heap.size + 1) 25 ncs) := Lib.hid (by rw [hW3]; exact N2.out.drewN _)
  have D3 : Hid (Below w.heap.size w W3) := Lib.hid (by rw [hW3]; exact below_drewN D2.out _)
  rw [← hW3]
  clear hW3 RP2 R22 R32 K2 N2 D2 RQ2
  by_cases h0 : E = 0
  · subst h0
    have HSO : Hid (sealB x0 x1 x2 p = x3) := Lib.hid (by rw [HP.out]; exact seal_open HE.out.symm)
    go_wp2_with (first
      | (refine wpList_load_blk rfl 23 (.tmp 4) rfl w.heap.size rfl 23 _ _ K3.out Tryd.underlying23 rfl (by rw [HKM.out]; exact HIK.out) ?_)
      | (refine wpList_load_blk rfl 25 (.tmp 5) rfl (w.heap.size + 1) rfl 25 _ _ N3.out Tryd.underlying25 rfl (by rw [HNM.out]; exact HIN.out) ?_))
    have HCS : Hid (∀ V, Qs V → Rd V (.slice A2 x2.length c2) x2 → Rd V (.slice Ap p.length cp) p → Calls Tryd.prog 9 #[.agg kcs.toArray, .agg ncs.toArray, .slice A2 x2.length c2, .slice Ap p.length cp] V fun e V' => ∃ v, e = .returned (.tuple #[v, .int .i64 0]) ∧ Rd V' v x3 ∧ Below V.heap.size V V') := Lib.hid fun V hq hg hh => by
      rw [← HEK.out, ← HEN.out, ← HSO.out]
      exact HS x0 x1 _ _ x2 p V L0.out L1.out hg hh (by have := HL.out; omega) (by have := HPL.out; omega) hq
    refine (HCS.out W3 (HQ0.out.below D3.out) R23.out RP3.out).mono ?_
    rintro e w4 ⟨v4, rfl, rs4, hb4⟩
    obtain ⟨As, cs, rfl, _, hcs, _⟩ := rs4.form
    unfold maxLen at hcs
    have RS4 := Lib.hid rs4
    have R34 := Lib.hid (R33.out.below hb4)
    have D4 : Hid (Below w.heap.size w w4) := Lib.hid (D3.out.trans (hb4.mono D3.out.size))
    clear rs4 hb4 R33 D3 RP3 R23 K3 N3
    go_wp2_with (fail)
    refine (same_yes _ _ x3 w4 RS4.out R34.out).mono ?_
    rintro e w5 ⟨rfl, n5, rfl⟩
    go_wp2_with (fail)
    refine (aeadAwake_any HS _ ((HQ0.out.below D4.out).below (below_drewN (Below.refl _ _) n5))).mono ?_
    rintro e w6 ⟨rfl, hb6⟩
    go_wp2_with (fail)
    go_ret
    exact ⟨rfl, (below_drewN D4.out n5).trans (hb6.mono D4.out.size)⟩
  · have h0I : (E : Int) ≠ 0 := by omega
    go_wp2_with (fail)
    refine (aeadAwake_any HS W3 (HQ0.out.below D3.out)).mono ?_
    rintro e w6 ⟨rfl, hb6⟩
    go_wp2_with (fail)
    go_ret
    exact ⟨rfl, D3.out.trans (hb6.mono D3.out.size)⟩
end Go.Proofs.YtmoffodmbbkolaaDoor.aeadOpens
