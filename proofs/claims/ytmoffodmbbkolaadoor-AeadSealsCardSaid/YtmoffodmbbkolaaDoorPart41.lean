/- Part 41 of the words that the laws share: ASeal, AOpen. No condition of its own: each theorem says its own. -/
import Derived.Test.YtmoffodmbbkolaaDoorPart25
import Derived.Test.YtmoffodmbbkolaaDoorPart39
import Derived.Test.YtmoffodmbbkolaaDoorPart35
import Derived.Test.YtmoffodmbbkolaaDoorPart11

/- The contract of aead.Seal. Conditions: a key of 32 bytes, a nonce of 12; the table of the places as it is laid. -/
namespace Go.Proofs.YtmoffodmbbkolaaDoor
open Go.RowKit

set_option maxRecDepth 100000 in
set_option maxHeartbeats 2000000 in
theorem aSeal_any (k n : List UInt8) (va vp : Value) (a p : List UInt8) (w : World) (hk : k.length = 32) (hn : n.length = 12) (ha : Rd w va a) (hp : Rd w vp p) (la : a.length ≤ 10000) (lp : p.length ≤ 4096) (hq : Qs w) :
    Calls Tryd.prog 9 #[arrV k, arrV n, va, vp] w fun e w' => ∃ v, e = .returned (.tuple #[v, .int .i64 0]) ∧ Rd w' v (sealB k n a p) ∧ Below w.heap.size w w' := by
  obtain ⟨i0, hi, hz0, hz1, hz2⟩ := info_parts info_u8
  have HA := Lib.hid ha
  have HP := Lib.hid hp
  obtain ⟨Aa, ca, rfl, _, hca, _⟩ := ha.form
  obtain ⟨Ap, cp, rfl, _, hcp, _⟩ := hp.form
  unfold maxLen at hca hcp
  have HIK : Hid ((Tryd.prog.info? 23).map (·.size) = some 32) := by show _ = _; kernel_rfl
  have HIN : Hid ((Tryd.prog.info? 25).map (·.size) = some 12) := by show _ = _; kernel_rfl
  have HIT : Hid ((Tryd.prog.info? 49).map (·.size) = some 16) := by show _ = _; kernel_rfl
  have HKL := Lib.hid hk
  have HNL := Lib.hid hn
  have HKM : Hid ((k.map bv).length = 32) := by show _ = _; rw [List.length_map, hk]
  have HNM : Hid ((n.map bv).length = 12) := by show _ = _; rw [List.length_map, hn]
  have LA : Hid (a.length ≤ 10000 ∧ p.length ≤ 4096) := Lib.hid ⟨la, lp⟩
  have HQ0 := Lib.hid hq
  have lI : (p.length : Int) ≤ 4096 := by omega
  obtain ⟨W0, hW0⟩ : ∃ W : World, W = (w.alloc (.cells (k.map bv).toArray 23)).alloc (.cells (n.map bv).toArray 25) := ⟨_, rfl⟩
  have D0 : Hid (Below w.heap.size w W0) := Lib.hid (by rw [hW0]; exact (((Below.refl _ _).alloc (Nat.le_refl _) _).alloc (by simp) _))
  have K0 : Hid (Blk W0 w.heap.size 23 (k.map bv)) := Lib.hid (by rw [hW0]; exact (Blk.made w _ _).alloc _)
  have N0 : Hid (Blk W0 (w.heap.size + 1) 25 (n.map bv)) := Lib.hid (by
    have h := Blk.made (w.alloc (.cells (k.map bv).toArray 23)) 25 (n.map bv)
    rw [World.size_alloc] at h
    rw [hW0]
    exact h)
  clear hk hn ha hp la lp hq
  go_enter Tryd.func9, Tryd.ntmps9
  go_upto_region 1 with (first
    | refine Go.Great.wpList_boxTo rfl _ _ rfl _ rfl w.heap.size rfl ((k.map bv).toArray) rfl ?_
    | refine Go.Great.wpList_boxTo rfl _ _ rfl _ rfl (w.heap.size + 1) (by simp) ((n.map bv).toArray) rfl ?_)
  rw [← hW0]
  clear hW0
  go_wp2_with (first
    | (refine wpList_load_blk rfl 23 (.tmp 4) rfl w.heap.size rfl 23 (k.map bv) _ K0.out Tryd.underlying23 rfl (by rw [HKM.out]; exact HIK.out) ?_)
    | (refine wpList_load_blk rfl 25 (.tmp 5) rfl (w.heap.size + 1) rfl 25 (n.map bv) _ N0.out Tryd.underlying25 rfl (by rw [HNM.out]; exact HIN.out) ?_))
  refine (cxor_any (.slice Ap p.length cp) k n p 1 W0 HKL.out HNL.out (by omega) (HP.out.below D0.out) (by have := LA.out; omega) (HQ0.out.below D0.out)).mono ?_
  rintro e w1 ⟨vu, rfl, ou, hb1⟩
  obtain ⟨us, hus⟩ : ∃ us, us = chaXor k n 1 p := ⟨_, rfl⟩
  rw [← hus] at ou
  have HUS := Lib.hid hus
  have HUL : Hid (us.length = p.length) := Lib.hid (by rw [hus, chaXor_length])
  obtain ⟨Au, cu, rfl⟩ := own_shape ou
  have OU1 := Lib.hid ou
  have K1 := Lib.hid (K0.out.below hb1 K0.out.lt)
  have N1 := Lib.hid (N0.out.below hb1 N0.out.lt)
  have D1 : Hid (Below w.heap.size w w1) := Lib.hid (D0.out.trans (hb1.mono D0.out.size))
  have S0 : Hid (w.heap.size ≤ W0.heap.size) := Lib.hid D0.out.size
  clear hb1 ou hus K0 N0 D0
  go_wp2_with (first
    | (refine wpList_load_blk rfl 23 (.tmp 4) rfl w.heap.size rfl 23 (k.map bv) _ K1.out Tryd.underlying23 rfl (by rw [HKM.out]; exact HIK.out) ?_)
    | (refine wpList_load_blk rfl 25 (.tmp 5) rfl (w.heap.size + 1) rfl 25 (n.map bv) _ N1.out Tryd.underlying25 rfl (by rw [HNM.out]; exact HIN.out) ?_))
  refine (tagOf_any k n _ _ a us w1 HKL.out HNL.out (HA.out.below D1.out) (Rd.of_own OU1.out) (by have := LA.out; omega) (by have := LA.out; have := HUL.out; omega) (HQ0.out.below D1.out)).mono ?_
  rintro e w2 ⟨rfl, hb2⟩
  obtain ⟨tg, htg⟩ : ∃ tg, tg = sealT k n a us := ⟨_, rfl⟩
  rw [← htg]
  have HTG := Lib.hid htg
  have HTL : Hid (tg.length = 16) := Lib.hid (by rw [htg, sealT_length])
  have TGM : Hid ((tg.map bv).length = 16) := Lib.hid (by rw [List.length_map]; exact HTL.out)
  have HT2 := Lib.hid (Blk.made w2 49 (List.replicate 16 (Value.int .u8 0)))
  have OU2 : Hid (w2.ownsRow w.heap.size 5 1 (.slice Au us.length cu) us.length (us.map bv)) := Lib.hid (own_mono (own_lain OU1.out hb2) S0.out)
  have D2 : Hid (Below w.heap.size w w2) := Lib.hid (D1.out.trans (hb2.mono D1.out.size))
  clear hb2 htg OU1 K1 N1 D1
  go_wp2_with (first
    | (refine wpList_store_blk rfl 49 _ _ rfl w2.heap.size 49 _ HT2.out (tg.map bv) rfl rfl (by rw [TGM.out]; rfl) (by rw [TGM.out]; exact HIT.out) (bv_one _) ?_
       intro w3 hb3 hs3
       have r3 := hb3.rd 16 16 (by rw [HTL.out]; omega) (by omega) (by unfold maxLen; omega)
       rw [List.take_of_length_le (by rw [HTL.out]; omega)] at r3
       have R3 := Lib.hid r3
       have OU3 := Lib.hid (own_sole (OU2.out.alloc _) hs3 (fun hk => Nat.lt_irrefl _ ((OU2.out.lt _ hk).2)))
       have D3 : Hid (Below w.heap.size w w3) := Lib.hid ((D2.out.alloc D2.out.size (.cells (List.replicate 16 (Value.int .u8 0)).toArray 49)).trans (hs3.below.mono D2.out.size))
       clear hb3 hs3 r3 HT2)
    | (at_builtin
       refine wpList_append_rd _ rfl (.tmp 24) (.tmp 25) _ rfl w.heap.size 5 i0 _ Tryd.underlying26 hi hz0 hz1 hz2 rfl _ _ _ rfl OU3.out _ tg rfl R3.out ?_ ?_ ?_
       · have := LA.out; have := HUL.out; have := HTL.out; omega
       · exact D3.out.size
       intro v4 w4 own4 g4))
  go_ret2
  have e : us ++ tg = sealB k n a p := by
    unfold sealB
    rw [HTG.out, HUS.out]
  rw [← List.map_append, e] at own4
  exact ⟨v4, rfl, Rd.of_own own4, D3.out.grown g4 D3.out.size (own_ge OU3.out)⟩
set_option maxRecDepth 100000 in
set_option maxHeartbeats 2000000 in
theorem aSeal_long (k n : List UInt8) (va vp : Value) (a p : List UInt8) (w : World) (ha : Rd w va a) (hp : Rd w vp p) (lp : 4096 < p.length) :
    Calls Tryd.prog 9 #[arrV k, arrV n, va, vp] w fun e w' => ∃ v, e = .returned (.tuple #[v, .int .i64 3]) ∧ Rd w' v [] ∧ Below w.heap.size w w' := by
  obtain ⟨Aa, ca, rfl, _, hca, _⟩ := ha.form
  obtain ⟨Ap, cp, rfl, _, hcp, _⟩ := hp.form
  unfold maxLen at hca hcp
  have lI : (4096 : Int) < p.length := by omega
  have D0 : Hid (Below w.heap.size w ((w.alloc (.cells (k.map bv).toArray 23)).alloc (.cells (n.map bv).toArray 25))) := Lib.hid (((Below.refl _ _).alloc (Nat.le_refl _) _).alloc (by simp) _)
  clear ha hp lp
  go_enter Tryd.func9, Tryd.ntmps9
  go_wp2_with (first
    | refine Go.Great.wpList_boxTo rfl _ _ rfl _ rfl w.heap.size rfl ((k.map bv).toArray) rfl ?_
    | refine Go.Great.wpList_boxTo rfl _ _ rfl _ rfl (w.heap.size + 1) (by simp) ((n.map bv).toArray) rfl ?_)
  go_ret2
  exact ⟨_, rfl, Rd.nil _, D0.out⟩
theorem sealc : SealC := fun k n va vp a p w hk hn ha hp la lp hq => aSeal_any k n va vp a p w hk hn ha hp (by omega) (by omega) hq
theorem seall : SealL := fun k n va vp a p w _ _ ha hp _ lp _ _ => aSeal_long k n va vp a p w ha hp lp
end Go.Proofs.YtmoffodmbbkolaaDoor

/- The contract of aead.Open. Conditions: a key of 32 bytes, a nonce of 12; the table of the places as it is laid. -/
namespace Go.Proofs.YtmoffodmbbkolaaDoor
open Go.RowKit

/-- What stands through Open. -/
structure OS (w : World) (KB NB : Nat) (kcs ncs : List Value) (V : World) : Prop where
  low : Below w.heap.size w V
  kb : Blk V KB 23 kcs
  nb : Blk V NB 25 ncs
theorem OS.on {w V V' : World} {KB NB : Nat} {kcs ncs : List Value} (h : OS w KB NB kcs ncs V) (hb : Below V.heap.size V V') : OS w KB NB kcs ncs V' :=
  ⟨h.low.trans (hb.mono h.low.size), h.kb.below hb h.kb.lt, h.nb.below hb h.nb.lt⟩
theorem OS.drew {w V : World} {KB NB : Nat} {kcs ncs : List Value} (h : OS w KB NB kcs ncs V) : OS w KB NB kcs ncs V.drew := h.on (Below.refl _ _).drew
/-- The same, and a tag. -/
structure OT (w : World) (KB NB B : Nat) (kcs ncs tcs : List Value) (V : World) : Prop where
  os : OS w KB NB kcs ncs V
  tb : Blk V B 49 tcs
theorem OT.on {w V V' : World} {KB NB B : Nat} {kcs ncs tcs : List Value} (h : OT w KB NB B kcs ncs tcs V) (hb : Below V.heap.size V V') : OT w KB NB B kcs ncs tcs V' := ⟨h.os.on hb, h.tb.below hb h.tb.lt⟩
theorem OT.drew {w V : World} {KB NB B : Nat} {kcs ncs tcs : List Value} (h : OT w KB NB B kcs ncs tcs V) : OT w KB NB B kcs ncs tcs V.drew := h.on (Below.refl _ _).drew
set_option maxRecDepth 100000 in
set_option maxHeartbeats 4000000 in
theorem aOpen_any (k n : List UInt8) (va vs : Value) (a s : List UInt8) (w : World) (hk : k.length = 32) (hn : n.length = 12) (ha : Rd w va a) (hs : Rd w vs s) (la : a.length ≤ 10000) (ls : s.length ≤ 10000) (hq : Qs w) :
    Calls Tryd.prog 10 #[arrV k, arrV n, va, vs] w (Opened k n a s w) := by
  obtain ⟨i0, hi, hz0, hz1, hz2⟩ := info_parts info_u8
  have HA := Lib.hid ha
  have HSD := Lib.hid hs
  obtain ⟨Aa, ca, rfl, _, hca, _⟩ := ha.form
  obtain ⟨As, cs, rfl, hs1, hs2, _⟩ := hs.form
  unfold maxLen at hca hs2
  have HIK : Hid ((Tryd.prog.info? 23).map (·.size) = some 32) := by show _ = _; kernel_rfl
  have HIN : Hid ((Tryd.prog.info? 25).map (·.size) = some 12) := by show _ = _; kernel_rfl
  have HIT : Hid ((Tryd.prog.info? 49).map (·.size) = some 16) := by show _ = _; kernel_rfl
  have HKL := Lib.hid hk
  have HNL := Lib.hid hn
  obtain ⟨kcs, hkc⟩ : ∃ cs, cs = k.map bv := ⟨_, rfl⟩
  obtain ⟨ncs, hnc⟩ : ∃ cs, cs = n.map bv := ⟨_, rfl⟩
  have HKM : Hid (kcs.length = 32) := by show _ = _; rw [hkc, List.length_map, hk]
  have HNM : Hid (ncs.length = 12) := by show _ = _; rw [hnc, List.length_map, hn]
  have LA : Hid (a.length ≤ 10000 ∧ s.length ≤ 10000) := Lib.hid ⟨la, ls⟩
  have ek : arrV k = .agg kcs.toArray := by rw [hkc]; rfl
  have en : arrV n = .agg ncs.toArray := by rw [hnc]; rfl
  have HEK := Lib.hid ek
  have HEN := Lib.hid en
  have HQ0 := Lib.hid hq
  rw [ek, en]
  obtain ⟨W0, hW0⟩ : ∃ W : World, W = (w.alloc (.cells kcs.toArray 23)).alloc (.cells ncs.toArray 25) := ⟨_, rfl⟩
  obtain ⟨KB, hKB⟩ : ∃ B, B = w.heap.size := ⟨_, rfl⟩
  obtain ⟨NB, hNB⟩ : ∃ B, B = w.heap.size + 1 := ⟨_, rfl⟩
  have D0 : Below w.heap.size w W0 := by rw [hW0]; exact (((Below.refl _ _).alloc (Nat.le_refl _) _).alloc (by simp) _)
  have hC : OS w KB NB kcs ncs W0 := by
    refine ⟨D0, ?_, ?_⟩
    · rw [hW0, hKB]; exact (Blk.made w _ _).alloc _
    · have h := Blk.made (w.alloc (.cells kcs.toArray 23)) 25 ncs
      rw [World.size_alloc] at h
      rw [hW0, hNB]
      exact h
  have HC := Lib.hid hC
  have HKB := Lib.hid hKB
  have HNB := Lib.hid hNB
  have HSZ : Hid (W0.heap.size = w.heap.size + 1 + 1) := Lib.hid (by rw [hW0]; simp)
  clear hk hn ha hs la hkc hnc ek en D0 hC hKB hNB hq
  by_cases h16 : s.length < 16
  · have lI : (s.length : Int) < 16 := by omega
    have eE : openE k n a s = 2 := by unfold openE; rw [if_pos h16]
    have eP : openP k n a s = [] := by unfold openP; rw [eE]; rfl
    subst hW0
    have D0 := HC.out.low
    clear HC
    go_enter Tryd.func10, Tryd.ntmps10
    go_wp2_with (first
      | refine Go.Great.wpList_boxTo rfl _ _ rfl _ rfl w.heap.size rfl (kcs.toArray) rfl ?_
      | refine Go.Great.wpList_boxTo rfl _ _ rfl _ rfl (w.heap.size + 1) (by simp) (ncs.toArray) rfl ?_)
    go_ret2
    unfold Opened
    rw [eE, eP]
    exact ⟨_, rfl, Rd.nil _, D0⟩
  by_cases h41 : 4112 < s.length
  · have lI1 : (16 : Int) ≤ s.length := by omega
    have lI : (4112 : Int) < (s.length : Int) := by omega
    have eE : openE k n a s = 3 := by unfold openE; rw [if_neg h16, if_pos h41]
    have eP : openP k n a s = [] := by unfold openP; rw [eE]; rfl
    subst hW0
    have D0 := HC.out.low
    clear HC h16
    go_enter Tryd.func10, Tryd.ntmps10
    go_wp2_with (first
      | refine Go.Great.wpList_boxTo rfl _ _ rfl _ rfl w.heap.size rfl (kcs.toArray) rfl ?_
      | refine Go.Great.wpList_boxTo rfl _ _ rfl _ rfl (w.heap.size + 1) (by simp) (ncs.toArray) rfl ?_)
    go_ret2
    unfold Opened
    rw [eE, eP]
    exact ⟨_, rfl, Rd.nil _, D0⟩
  have lI1 : (16 : Int) ≤ s.length := by omega
  have lI2 : (s.length : Int) ≤ 4112 := by omega
  have H16 : Hid (16 ≤ s.length ∧ ¬ 4112 < s.length) := Lib.hid (by omega)
  obtain ⟨cc, hcc⟩ : ∃ cc, cc = s.length - 16 := ⟨_, rfl⟩
  have ecc : (s.length : Int) - 16 = (cc : Int) := by omega
  have hccl : cc ≤ s.length := by omega
  have cI : (cc : Int) ≤ s.length := by omega
  have ccI : (cc : Int) ≤ 4096 := by omega
  obtain ⟨A1, c1, S1, r1⟩ := HSD.out.high (P := Tryd.prog) 26 5 i0 Tryd.underlying26 hi hz1 cc hccl
  obtain ⟨A3, c3, S3, r3⟩ := HSD.out.low (P := Tryd.prog) 26 5 i0 Tryd.underlying26 hi hz1 cc hccl
  have R1 := Lib.hid r1
  have R3 := Lib.hid r3
  have HD3 : Hid ((s.drop cc).length = 16) := Lib.hid (by rw [List.length_drop]; omega)
  obtain ⟨tg, htg⟩ : ∃ tg, tg = sealT k n a (s.take cc) := ⟨_, rfl⟩
  have HTG := Lib.hid htg
  have HTL : Hid (tg.length = 16) := Lib.hid (by rw [htg, sealT_length])
  have TGM : Hid ((tg.map bv).length = 16) := Lib.hid (by rw [List.length_map]; exact HTL.out)
  have HT : Hid (∀ V, OS w KB NB kcs ncs V → Calls Tryd.prog 19 #[.agg kcs.toArray, .agg ncs.toArray, .slice Aa a.length ca, .slice A1 cc c1] V fun e V' => e = .returned (arrV tg) ∧ Below V.heap.size V V') := Lib.hid fun V hV => by
    rw [← HEK.out, ← HEN.out, HTG.out]
    exact tagOf_any k n _ _ a (s.take cc) V HKL.out HNL.out (HA.out.below hV.low) (R1.out.below hV.low) (by have := LA.out; omega) (by rw [List.length_take]; have := LA.out; omega) (HQ0.out.below hV.low)
  have HX : Hid (∀ V, OS w KB NB kcs ncs V → Calls Tryd.prog 18 #[.agg kcs.toArray, .agg ncs.toArray, .int .u32 1, .slice A1 cc c1] V fun e V' => ∃ u, e = .returned u ∧ Rd V' u (chaXor k n 1 (s.take cc)) ∧ OS w KB NB kcs ncs V') := Lib.hid fun V hV => by
    rw [← HEK.out, ← HEN.out]
    exact (cxor_any (.slice A1 cc c1) k n (s.take cc) 1 V HKL.out HNL.out (by omega) (R1.out.below hV.low) (by rw [List.length_take]; have := LA.out; omega) (HQ0.out.below hV.low)).mono fun e V' h => by
      obtain ⟨u, h1, h2, h3⟩ := h.fresh
      exact ⟨u, h1, h2, hV.on h3⟩
  have hu1 := Tryd.underlying23
  have hu2 := Tryd.underlying25
  have hsi1 : (Tryd.prog.info? 23).map (·.size) = some kcs.length := by rw [HKM.out]; exact HIK.out
  have hsi2 : (Tryd.prog.info? 25).map (·.size) = some ncs.length := by rw [HNM.out]; exact HIN.out
  have HCC := Lib.hid hcc
  have HEC := Lib.hid ecc
  clear r1 r3 h16 h41 hcc hs1 ls htg ecc
  go_enter Tryd.func10, Tryd.ntmps10
  go_upto_region 1 with (first
    | refine Go.Great.wpList_boxTo rfl _ _ rfl _ rfl w.heap.size rfl (kcs.toArray) rfl ?_
    | refine Go.Great.wpList_boxTo rfl _ _ rfl _ rfl (w.heap.size + 1) (by simp) (ncs.toArray) rfl ?_)
  rw [← hW0, ← HNB.out, ← HKB.out]
  clear hW0
  go_upto_region 2 with (fail)
  rw [HEC.out]
  have KM := HKM.out
  have NM := HNM.out
  have K0 := Lib.hid HC.out.kb
  have N0 := Lib.hid HC.out.nb
  go_wp2_with (first
    | (refine wpList_load_blk rfl 23 (.tmp 4) rfl KB rfl 23 kcs _ K0.out Tryd.underlying23 rfl hsi1 ?_)
    | (refine wpList_load_blk rfl 25 (.tmp 5) rfl NB rfl 25 ncs _ N0.out Tryd.underlying25 rfl hsi2 ?_))
  refine (HT.out _ HC.out).mono ?_
  rintro e w7 ⟨rfl, hb7⟩
  have o7 := HC.out.on hb7
  obtain ⟨B, hB⟩ : ∃ B, B = w7.heap.size := ⟨_, rfl⟩
  have TB : Hid (Blk (w7.alloc (.cells (List.replicate 16 (Value.int .u8 0)).toArray 49)) B 49 (List.replicate 16 (Value.int .u8 0))) := Lib.hid (by rw [hB]; exact Blk.made w7 _ _)
  have HBL : Hid (W0.heap.size ≤ B) := Lib.hid (by rw [hB]; exact hb7.size)
  have O7 := Lib.hid (o7.on ((Below.refl w7.heap.size w7).alloc (Nat.le_refl _) (.cells (List.replicate 16 (Value.int .u8 0)).toArray 49)))
  have HB := Lib.hid hB
  clear hb7 o7 hB K0 N0
  go_upto_region 8 with (first
    | (rw [← HB.out]
       refine wpList_store_blk rfl 49 _ _ rfl B 49 _ TB.out (tg.map bv) rfl rfl (by rw [TGM.out]; rfl) (by rw [TGM.out]; exact HIT.out) (bv_one _) ?_
       intro w9 hb9 hs9))
  have OT9 : OT w KB NB B kcs ncs (tg.map bv) w9 := by
    have hsz := HSZ.out
    have hk := HKB.out
    have hn := HNB.out
    have hbl := HBL.out
    exact ⟨⟨O7.out.low.trans (hs9.below.mono (by omega)), hs9.blk O7.out.kb (by omega), hs9.blk O7.out.nb (by omega)⟩, hb9⟩
  clear hb9 hs9 TB HB O7
  have HSM : Hid (∀ V, OT w KB NB B kcs ncs (tg.map bv) V → Calls Tryd.prog 20 #[.slice (some ⟨B, 0, none⟩) 16 16, .slice A3 (s.length - cc) c3] V fun e V' => e = .returned (.bool (decide (tg = s.drop cc))) ∧ OT w KB NB B kcs ncs (tg.map bv) V') := Lib.hid fun V hV => by
    have h1 := hV.tb.rd 16 16 (by rw [HTL.out]; omega) (by omega) (by unfold maxLen; omega)
    rw [List.take_of_length_le (by rw [HTL.out]; omega)] at h1
    exact (psame_any _ _ tg (s.drop cc) V h1 (R3.out.below hV.os.low) (by rw [HTL.out]; omega) (by rw [HD3.out]; omega)).mono fun e V' ⟨he, n, hn⟩ => ⟨he, hn ▸ hV.on (below_drewN (Below.refl _ _) n)⟩
  refine wp_region_held_drew (S := (OT w KB NB B kcs ncs (tg.map bv))) (by kernel_rfl) ?_ (fun hHeld => ?_)
  · (first | assumption | exact OT.drew (by assumption))
  refine take_put (i := 0) (oi := _) (v := ?_) 28 rfl rfl (by kernel_rfl) (by kernel_rfl) (by kernel_rfl) (fun _ _ _ h => h) (Or.inl ⟨by rfl, ?hy0⟩) (by assumption) ?_
  case hy0 => ((intro W hSw); (try dsimp only at hSw); go_simp; try (with_reducible rfl))
  simp only [List.set_cons_zero, List.set_cons_succ]
  refine take_put (i := 1) (oi := _) (v := ?_) 29 rfl rfl (by kernel_rfl) (by kernel_rfl) (by kernel_rfl) (fun _ _ _ h => h) (Or.inl ⟨by rfl, ?hy1⟩) (by assumption) ?_
  case hy1 => ((intro W hSw); (try dsimp only at hSw); go_simp; try (with_reducible rfl))
  simp only [List.set_cons_zero, List.set_cons_succ]
  refine take_put (i := 2) (oi := _) (v := ?_) 30 rfl rfl (by kernel_rfl) (by kernel_rfl) (by kernel_rfl) (fun _ _ _ h => h) (Or.inl ⟨by rfl, ?hy2⟩) (by assumption) ?_
  case hy2 => ((intro W hSw); (try dsimp only at hSw); go_simp; try (with_reducible rfl))
  simp only [List.set_cons_zero, List.set_cons_succ]
  refine take_put (i := 3) (oi := _) (v := ?_) 31 rfl rfl (by kernel_rfl) (by kernel_rfl) (by kernel_rfl) (fun _ _ _ h => h) (Or.inl ⟨by rfl, ?hy3⟩) (by assumption) ?_
  case hy3 => ((intro W hSw); (try dsimp only at hSw); go_simp; try (with_reducible rfl))
  simp only [List.set_cons_zero, List.set_cons_succ]
  refine wpAnyH_ready (rs := [4]) (by kernel_rfl) (by simp) ?_
  refine AllReadyH.cons (o := _) rfl (fun K hK => ?_) AllReadyH.nil
  go_simp
  (with_reducible refine (HSM.out _ ?_).mono ?_; (first | assumption | exact OT.drew (by assumption)); rintro e r1 ⟨rfl, sv1⟩)
  refine hK.out _ _ ?_ (fun hHeld => ?_)
  · (first | assumption | exact OT.drew (by assumption))
  clear hK K
  try simp only [Act.put, List.setIfInBounds_toArray, List.set_cons_zero, List.set_cons_succ]
  refine take_put (i := 5) (oi := _) (v := ?_) 33 rfl rfl (by kernel_rfl) (by kernel_rfl) (by kernel_rfl) (fun _ _ _ h => h) (Or.inl ⟨by rfl, ?hy5⟩) (by assumption) ?_
  case hy5 => ((intro W hSw); (try dsimp only at hSw); go_simp; try (with_reducible rfl))
  simp only [List.set_cons_zero, List.set_cons_succ]
  refine wpAnyH_done (by kernel_rfl) ?_ _
  have O8 := Lib.hid hHeld.os
  clear hHeld sv1 OT9 HSM
  by_cases he : tg = s.drop cc
  · rw [decide_eq_true he]
    have eE : openE k n a s = 0 := by
      unfold openE
      rw [if_neg (by have := H16.out; omega), if_neg H16.out.2, ← HCC.out, ← HTG.out, if_pos he]
    have eP : openP k n a s = chaXor k n 1 (s.take cc) := by
      unfold openP
      rw [if_pos eE, HCC.out]
    have K8 := Lib.hid O8.out.kb
    have N8 := Lib.hid O8.out.nb
    go_wp2_with (first
      | (refine wpList_load_blk rfl 23 (.tmp 4) rfl KB rfl 23 kcs _ K8.out Tryd.underlying23 rfl hsi1 ?_)
      | (refine wpList_load_blk rfl 25 (.tmp 5) rfl NB rfl 25 ncs _ N8.out Tryd.underlying25 rfl hsi2 ?_))
    refine (HX.out _ O8.out).mono ?_
    rintro e w10 ⟨u, rfl, rdu, o10⟩
    go_wp2_with (fail)
    go_ret2
    unfold Opened
    rw [eE, eP]
    exact ⟨u, rfl, rdu, o10.low⟩
  · rw [decide_eq_false he]
    have eE : openE k n a s = 5 := by
      unfold openE
      rw [if_neg (by have := H16.out; omega), if_neg H16.out.2, ← HCC.out, ← HTG.out, if_neg he]
    have eP : openP k n a s = [] := by
      unfold openP
      rw [eE]
      rfl
    have o8 := O8.out
    go_wp2_with (fail)
    go_ret2
    unfold Opened
    rw [eE, eP]
    exact ⟨_, rfl, Rd.nil _, o8.low⟩
theorem openc : OpenC := fun k n va vs a s w hk hn ha hs la ls hq => aOpen_any k n va vs a s w hk hn ha hs (by omega) (by omega) hq
theorem openl : OpenL := fun k n va vs a s w hk hn ha hs la ls lt hq => by
  have h := aOpen_any k n va vs a s w hk hn ha hs (by omega) (by omega) hq
  unfold Opened at h
  have eE : openE k n a s = 3 := by unfold openE; rw [if_neg (by omega), if_pos ls]
  have eP : openP k n a s = [] := by unfold openP; rw [eE]; rfl
  rw [eE, eP] at h
  exact h
end Go.Proofs.YtmoffodmbbkolaaDoor
