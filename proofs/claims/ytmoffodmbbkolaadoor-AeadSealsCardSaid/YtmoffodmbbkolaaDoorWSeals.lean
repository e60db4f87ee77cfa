/- The walk of 'AeadSeals' (law 6): whatever is sealed is what the document says, and is opened as it was; what is handed in stays. Premises: the contracts of aead's Seal and Open; the table of the places as it is laid. -/
import Derived.Test.YtmoffodmbbkolaaDoorPart25
import Derived.Test.YtmoffodmbbkolaaDoorPart5
import Derived.Test.YtmoffodmbbkolaaDoorPart3
import Derived.Deep.Cut
namespace Go.Proofs.YtmoffodmbbkolaaDoor.aeadSeals
open Go.RowKit

/-- What the last statement leans on. -/
structure TS (w : World) (KB NB g h q : Nat) (kcs ncs : List Value) (v2 v3 vs vp : Value) (x2 x3 s : List UInt8) (V : World) : Prop where
  low : Below w.heap.size w V
  kb : Blk V KB 23 kcs
  nb : Blk V NB 25 ncs
  qs : Qs V
  r2 : Rd V v2 x2
  r3 : Rd V v3 x3
  la : LentAt V g x2
  lb : LentAt V h x3
  ls : LentAt V q s
  rs : Rd V vs s
  rp : Rd V vp x3
theorem TS.on {w V V' : World} {KB NB g h q : Nat} {kcs ncs : List Value} {v2 v3 vs vp : Value} {x2 x3 s : List UInt8} (t : TS w KB NB g h q kcs ncs v2 v3 vs vp x2 x3 s V) (hb : Below V.heap.size V V') : TS w KB NB g h q kcs ncs v2 v3 vs vp x2 x3 s V' :=
  ⟨t.low.trans (hb.mono t.low.size), t.kb.below hb t.kb.lt, t.nb.below hb t.nb.lt, t.qs.below hb, t.r2.below hb, t.r3.below hb, t.la.below hb, t.lb.below hb, t.ls.below hb, t.rs.below hb, t.rp.below hb⟩
set_option maxRecDepth 100000 in
set_option maxHeartbeats 2000000 in
theorem walkC (HS : SealC) (HO : OpenC) (x0 x1 : List UInt8) (v2 : Value) (x2 : List UInt8) (v3 : Value) (x3 : List UInt8) (w : World) (l0 : x0.length = 32) (l1 : x1.length = 12) (k2 : Rd w v2 x2) (k3 : Rd w v3 x3) (hk : Qs w) :
    Calls Tryd.prog 3 #[.agg (x0.map bv).toArray, .agg (x1.map bv).toArray, v2, v3] w fun e w' => e = .returned (.bool true) ∧ Below w.heap.size w w' := by
  obtain ⟨A2, c2, rfl, _, hc2, _⟩ := k2.form
  obtain ⟨A3, c3, rfl, _, hc3, _⟩ := k3.form
  have HIK : Hid ((Tryd.prog.info? 23).map (·.size) = some 32) := by show _ = _; kernel_rfl
  have HIN : Hid ((Tryd.prog.info? 25).map (·.size) = some 12) := by show _ = _; kernel_rfl
  unfold maxLen at hc2 hc3
  obtain ⟨kcs, hkc⟩ : ∃ cs, cs = x0.map bv := ⟨_, rfl⟩
  obtain ⟨ncs, hnc⟩ : ∃ cs, cs = x1.map bv := ⟨_, rfl⟩
  have HKM : Hid (kcs.length = 32) := by show _ = _; rw [hkc, List.length_map, l0]
  have HNM : Hid (ncs.length = 12) := by show _ = _; rw [hnc, List.length_map, l1]
  have HEK : Hid (arrV x0 = .agg kcs.toArray) := Lib.hid (by rw [hkc]; rfl)
  have HEN : Hid (arrV x1 = .agg ncs.toArray) := Lib.hid (by rw [hnc]; rfl)
  have L0 := Lib.hid l0
  have L1 := Lib.hid l1
  rw [← hkc, ← hnc]
  obtain ⟨W0, hW0⟩ : ∃ W : World, W = (w.alloc (.cells kcs.toArray 23)).alloc (.cells ncs.toArray 25) := ⟨_, rfl⟩
  have D0 : Hid (Below w.heap.size w W0) := Lib.hid (by rw [hW0]; exact (((Below.refl _ _).alloc (Nat.le_refl _) _).alloc (by simp) _))
  have K0 : Hid (Blk W0 w.heap.size 23 kcs) := Lib.hid (by rw [hW0]; exact (Blk.made w _ _).alloc _)
  have N0 : Hid (Blk W0 (w.heap.size + 1) 25 ncs) := Lib.hid (by
    have h := Blk.made (w.alloc (.cells kcs.toArray 23)) 25 ncs
    rw [World.size_alloc] at h
    rw [hW0]
    exact h)
  have HQ0 := Lib.hid hk
  have R2 := Lib.hid k2
  have R3 := Lib.hid k3
  clear hkc hnc l0 l1 k2 k3 hk
  by_cases h3 : 200 < x3.length
  · have lI : (200 : Int) < (x3.length : Int) := by omega
    subst hW0
    go_enter Tryd.func3, Tryd.ntmps3
    go_wp2_with (first
      | refine Go.Great.wpList_boxTo rfl _ _ rfl _ rfl w.heap.size rfl (kcs.toArray) rfl ?_
      | refine Go.Great.wpList_boxTo rfl _ _ rfl _ rfl (w.heap.size + 1) (by simp) (ncs.toArray) rfl ?_)
    refine (aeadAwake_any HS _ (HQ0.out.below D0.out)).mono ?_
    rintro e w3 ⟨rfl, hb3⟩
    go_wp2_with (fail)
    go_ret
    exact ⟨rfl, D0.out.trans (hb3.mono D0.out.size)⟩
  have lI3 : (x3.length : Int) ≤ 200 := by omega
  have d3 : decide ((200 : Int) < (x3.length : Int)) = false := decide_eq_false (by omega)
  by_cases h2 : 100 < x2.length
  · have lI : (100 : Int) < (x2.length : Int) := by omega
    subst hW0
    go_enter Tryd.func3, Tryd.ntmps3
    go_wp2_with (first
      | refine Go.Great.wpList_boxTo rfl _ _ rfl _ rfl w.heap.size rfl (kcs.toArray) rfl ?_
      | refine Go.Great.wpList_boxTo rfl _ _ rfl _ rfl (w.heap.size + 1) (by simp) (ncs.toArray) rfl ?_)
    refine (aeadAwake_any HS _ (HQ0.out.below D0.out)).mono ?_
    rintro e w3 ⟨rfl, hb3⟩
    go_wp2_with (fail)
    go_ret
    exact ⟨rfl, D0.out.trans (hb3.mono D0.out.size)⟩
  have lI2 : (x2.length : Int) ≤ 100 := by omega
  have d2 : decide ((100 : Int) < (x2.length : Int)) = false := decide_eq_false (by omega)
  have HL : Hid (x2.length ≤ 100 ∧ x3.length ≤ 200) := Lib.hid ⟨by omega, by omega⟩
  clear h2 h3
  go_enter Tryd.func3, Tryd.ntmps3
  go_upto_region 1 with (first
    | refine Go.Great.wpList_boxTo rfl _ _ rfl _ rfl w.heap.size rfl (kcs.toArray) rfl ?_
    | refine Go.Great.wpList_boxTo rfl _ _ rfl _ rfl (w.heap.size + 1) (by simp) (ncs.toArray) rfl ?_)
  rw [← hW0]
  clear hW0
  go_wp2_with (fail)
  refine (lent_any _ x2 W0 (R2.out.below D0.out) (by have := HL.out; omega)).mono ?_
  rintro e w1 ⟨g, rfl, lg1, _, hb1⟩
  have LG1 := Lib.hid lg1
  have B1 := Lib.hid hb1
  clear lg1 hb1
  go_wp2_with (fail)
  refine (lent_any _ x3 w1 ((R3.out.below D0.out).below B1.out) (by have := HL.out; omega)).mono ?_
  rintro e w2 ⟨h, rfl, lh2, _, hb2⟩
  have LH2 := Lib.hid lh2
  have LG2 := Lib.hid (LG1.out.below hb2)
  have B2 : Hid (Below W0.heap.size W0 w2) := Lib.hid (B1.out.trans (hb2.mono B1.out.size))
  have K2 := Lib.hid (K0.out.below B2.out K0.out.lt)
  have N2 := Lib.hid (N0.out.below B2.out N0.out.lt)
  have D2 : Hid (Below w.heap.size w w2) := Lib.hid (D0.out.trans (B2.out.mono D0.out.size))
  clear lh2 hb2 B1 LG1 B2 K0 N0 D0
  go_wp2_with (first
    | (refine wpList_load_blk rfl 23 (.tmp 4) rfl w.heap.size rfl 23 _ _ K2.out Tryd.underlying23 rfl (by rw [HKM.out]; exact HIK.out) ?_)
    | (refine wpList_load_blk rfl 25 (.tmp 5) rfl (w.heap.size + 1) rfl 25 _ _ N2.out Tryd.underlying25 rfl (by rw [HNM.out]; exact HIN.out) ?_))
  obtain ⟨s, hs⟩ : ∃ s, s = sealB x0 x1 x2 x3 := ⟨_, rfl⟩
  have HSB := Lib.hid hs
  have HSN : Hid (s.length = x3.length + 16) := Lib.hid (by rw [hs, sealB_length])
  have HCS : Hid (∀ V, Qs V → LentAt V g x2 → LentAt V h x3 → Calls Tryd.prog 9 #[.agg kcs.toArray, .agg ncs.toArray, .slice (some ⟨g, 0, none⟩) x2.length (x2.length + 8), .slice (some ⟨h, 0, none⟩) x3.length (x3.length + 8)] V fun e V' => ∃ v, e = .returned (.tuple #[v, .int .i64 0]) ∧ Rd V' v s ∧ Below V.heap.size V V') := Lib.hid fun V hq hg hh => by
    rw [← HEK.out, ← HEN.out, HSB.out]
    exact HS x0 x1 _ _ x2 x3 V L0.out L1.out (hg.rd (by have := HL.out; omega)) (hh.rd (by have := HL.out; omega)) (by have := HL.out; omega) (by have := HL.out; omega) hq
  clear hs
  refine (HCS.out w2 (HQ0.out.below D2.out) LG2.out LH2.out).mono ?_
  rintro e w3 ⟨vs, rfl, rs3, hb3⟩
  obtain ⟨As, cs, rfl, _, hcs, _⟩ := rs3.form
  unfold maxLen at hcs
  have RS3 := Lib.hid rs3
  have LG3 := Lib.hid (LG2.out.below hb3)
  have LH3 := Lib.hid (LH2.out.below hb3)
  have K3 := Lib.hid (K2.out.below hb3 K2.out.lt)
  have N3 := Lib.hid (N2.out.below hb3 N2.out.lt)
  have D3 : Hid (Below w.heap.size w w3) := Lib.hid (D2.out.trans (hb3.mono D2.out.size))
  clear rs3 hb3 LG2 LH2 K2 N2 D2 HCS
  go_wp2_with (fail)
  refine (lent_any _ s w3 RS3.out (by have := HL.out; have := HSN.out; omega)).mono ?_
  rintro e w4 ⟨q, rfl, lq4, _, hb4⟩
  have LQ4 := Lib.hid lq4
  have RS4 := Lib.hid (RS3.out.below hb4)
  have LG4 := Lib.hid (LG3.out.below hb4)
  have LH4 := Lib.hid (LH3.out.below hb4)
  have K4 := Lib.hid (K3.out.below hb4 K3.out.lt)
  have N4 := Lib.hid (N3.out.below hb4 N3.out.lt)
  have D4 : Hid (Below w.heap.size w w4) := Lib.hid (D3.out.trans (hb4.mono D3.out.size))
  clear lq4 hb4 LG3 LH3 K3 N3 D3 RS3
  go_wp2_with (first
    | (refine wpList_load_blk rfl 23 (.tmp 4) rfl w.heap.size rfl 23 _ _ K4.out Tryd.underlying23 rfl (by rw [HKM.out]; exact HIK.out) ?_)
    | (refine wpList_load_blk rfl 25 (.tmp 5) rfl (w.heap.size + 1) rfl 25 _ _ N4.out Tryd.underlying25 rfl (by rw [HNM.out]; exact HIN.out) ?_))
  have HCO : Hid (∀ V, Qs V → LentAt V g x2 → LentAt V q s → Calls Tryd.prog 10 #[.agg kcs.toArray, .agg ncs.toArray, .slice (some ⟨g, 0, none⟩) x2.length (x2.length + 8), .slice (some ⟨q, 0, none⟩) s.length (s.length + 8)] V fun e V' => ∃ v, e = .returned (.tuple #[v, .int .i64 0]) ∧ Rd V' v x3 ∧ Below V.heap.size V V') := Lib.hid fun V hq hg hh => by
    have h1 := HO x0 x1 _ _ x2 s V L0.out L1.out (hg.rd (by have := HL.out; omega)) (hh.rd (by have := HL.out; have := HSN.out; omega)) (by have := HL.out; omega) (by have := HL.out; have := HSN.out; omega) hq
    unfold Opened at h1
    rw [HEK.out, HEN.out] at h1
    have e1 : openE x0 x1 x2 s = 0 := by rw [HSB.out]; exact openE_seal (by have := HL.out; omega)
    have e2 : openP x0 x1 x2 s = x3 := by rw [HSB.out]; exact openP_seal (by have := HL.out; omega)
    rw [e1, e2] at h1
    exact h1
  refine (HCO.out w4 (HQ0.out.below D4.out) LG4.out LQ4.out).mono ?_
  rintro e w5 ⟨vp, rfl, rp5, hb5⟩
  obtain ⟨Ap, cp, rfl, _, hcp, _⟩ := rp5.form
  unfold maxLen at hcp
  obtain ⟨KB, hKB⟩ : ∃ B, B = w.heap.size := ⟨_, rfl⟩
  obtain ⟨NB, hNB⟩ : ∃ B, B = w.heap.size + 1 := ⟨_, rfl⟩
  have T5 : TS w KB NB g h q kcs ncs (.slice A2 x2.length c2) (.slice A3 x3.length c3) (.slice As s.length cs) (.slice Ap x3.length cp) x2 x3 s w5 := by
    have D5 : Below w.heap.size w w5 := D4.out.trans (hb5.mono D4.out.size)
    exact ⟨D5, by rw [hKB]; exact K4.out.below hb5 K4.out.lt, by rw [hNB]; exact N4.out.below hb5 N4.out.lt, HQ0.out.below D5, R2.out.below D5, R3.out.below D5, LG4.out.below hb5, LH4.out.below hb5, LQ4.out.below hb5, RS4.out.below hb5, rp5⟩
  have C1 : Hid (∀ V, TS w KB NB g h q kcs ncs (.slice A2 x2.length c2) (.slice A3 x3.length c3) (.slice As s.length cs) (.slice Ap x3.length cp) x2 x3 s V → Calls Tryd.prog 12 #[.agg kcs.toArray, .agg ncs.toArray, .slice A2 x2.length c2, .slice A3 x3.length c3] V fun e V' => ∃ u, e = .returned u ∧ Rd V' u s ∧ TS w KB NB g h q kcs ncs (.slice A2 x2.length c2) (.slice A3 x3.length c3) (.slice As s.length cs) (.slice Ap x3.length cp) x2 x3 s V') := Lib.hid fun V hV => by
    rw [← HEK.out, ← HEN.out, HSB.out]
    exact (refSeal_any x0 x1 _ _ x2 x3 V L0.out L1.out hV.r2 hV.r3 (by have := HL.out; omega) (by have := HL.out; omega)).mono fun e V' hh => by
      obtain ⟨u, e1, e2, e3⟩ := hh.fresh
      exact ⟨u, e1, e2, HSB.out ▸ hV.on e3⟩
  have T5H := Lib.hid T5
  have HKB := Lib.hid hKB
  have HNB := Lib.hid hNB
  rw [← hNB, ← hKB]
  clear hKB hNB T5 rp5 hb5 HCO LG4 LH4 LQ4 RS4 K4 N4 D4
  have K5 := Lib.hid T5H.out.kb
  have N5 := Lib.hid T5H.out.nb
  go_wp2_with (first
    | (refine wpList_load_blk_g 23 (.tmp 4) rfl (by rfl) KB rfl 23 _ _ K5.out Tryd.underlying23 rfl (by rw [HKM.out]; exact HIK.out) ?_)
    | (refine wpList_load_blk_g 25 (.tmp 5) rfl (by rfl) NB rfl 25 _ _ N5.out Tryd.underlying25 rfl (by rw [HNM.out]; exact HIN.out) ?_))
  refine (C1.out w5 T5H.out).mono ?_
  rintro e w6 ⟨u, rfl, ru6, t6⟩
  have T6 := Lib.hid t6
  have RU := Lib.hid ru6
  clear t6 ru6 K5 N5 T5H C1
  go_wp2_with (fail)
  refine (same_yes _ _ s w6 T6.out.rs RU.out).mono ?_
  rintro e w7 ⟨rfl, n7, rfl⟩
  have T7 := Lib.hid (T6.out.on (below_drewN (Below.refl _ _) n7))
  obtain ⟨W7, hW7⟩ : ∃ W : World, W = w6.drewN n7 := ⟨_, rfl⟩
  rw [← hW7] at T7 ⊢
  clear hW7 T6 RU
  go_wp2_with (fail)
  refine (same_yes _ _ x3 W7 T7.out.rp T7.out.r3).mono ?_
  rintro e w8 ⟨rfl, n8, rfl⟩
  have T8 := Lib.hid (T7.out.on (below_drewN (Below.refl _ _) n8))
  obtain ⟨W8, hW8⟩ : ∃ W : World, W = W7.drewN n8 := ⟨_, rfl⟩
  rw [← hW8] at T8 ⊢
  clear hW8 T7
  go_wp2_with (fail)
  refine (kept_any g _ x2 W8 T8.out.la T8.out.r2 (by have := HL.out; omega)).mono ?_
  rintro e w9 ⟨rfl, n9, rfl⟩
  have T9 := Lib.hid (T8.out.on (below_drewN (Below.refl _ _) n9))
  obtain ⟨W9, hW9⟩ : ∃ W : World, W = W8.drewN n9 := ⟨_, rfl⟩
  rw [← hW9] at T9 ⊢
  clear hW9 T8
  go_wp2_with (fail)
  refine (kept_any h _ x3 W9 T9.out.lb T9.out.r3 (by have := HL.out; omega)).mono ?_
  rintro e w10 ⟨rfl, n10, rfl⟩
  have T10 := Lib.hid (T9.out.on (below_drewN (Below.refl _ _) n10))
  obtain ⟨W10, hW10⟩ : ∃ W : World, W = W9.drewN n10 := ⟨_, rfl⟩
  rw [← hW10] at T10 ⊢
  clear hW10 T9
  go_wp2_with (fail)
  refine (kept_any q _ s W10 T10.out.ls T10.out.rs (by have := HL.out; have := HSN.out; omega)).mono ?_
  rintro e w11 ⟨rfl, n11, rfl⟩
  have T11 := Lib.hid (T10.out.on (below_drewN (Below.refl _ _) n11))
  obtain ⟨W11, hW11⟩ : ∃ W : World, W = W10.drewN n11 := ⟨_, rfl⟩
  rw [← hW11] at T11 ⊢
  clear hW11 T10
  go_wp2_with (fail)
  refine (aeadAwake_any HS W11 T11.out.qs).mono ?_
  rintro e w12 ⟨rfl, hb12⟩
  go_wp2_with (fail)
  go_ret
  exact ⟨rfl, T11.out.low.trans (hb12.mono T11.out.low.size)⟩
end Go.Proofs.YtmoffodmbbkolaaDoor.aeadSeals
