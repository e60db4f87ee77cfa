/- Part 25 of the words that the laws share: ROpen, AeadC, AAwake. No condition of its own: each theorem says its own. -/
import Derived.Test.YtmoffodmbbkolaaDoorPart24
import Derived.Test.YtmoffodmbbkolaaDoorPart1
import Derived.Test.YtmoffodmbbkolaaDoorPart9
import Derived.Test.YtmoffodmbbkolaaDoorPart26
import Derived.Deep.RegionHeld
import Derived.Deep.MidRow
import Derived.IntWalk
import Derived.Deep.Cut

/- The contract of the sixth reference's Open: the plain bytes whose sealing it is, or why there are none. Conditions: a key of 32 bytes, a nonce of 12, at most 100000 bytes each. -/
namespace Go.Proofs.YtmoffodmbbkolaaDoor
open Go.RowKit

/-- What stands through the region of the stream. -/
structure RoS (w : World) (KB NB : Nat) (kcs ncs : List Value) (va : Value) (a : List UInt8) (vs : Value) (s : List UInt8) (V : World) : Prop where
  low : Below w.heap.size w V
  kb : Blk V KB 22 kcs
  nb : Blk V NB 24 ncs
  ra : Rd V va a
  rs : Rd V vs s
theorem RoS.on {w V V' : World} {KB NB : Nat} {kcs ncs : List Value} {va vs : Value} {a s : List UInt8} (h : RoS w KB NB kcs ncs va a vs s V) (hb : Below V.heap.size V V') : RoS w KB NB kcs ncs va a vs s V' :=
  ⟨h.low.trans (hb.mono h.low.size), h.kb.below hb h.kb.lt, h.nb.below hb h.nb.lt, h.ra.below hb, h.rs.below hb⟩
theorem RoS.drew {w V : World} {KB NB : Nat} {kcs ncs : List Value} {va vs : Value} {a s : List UInt8} (h : RoS w KB NB kcs ncs va a vs s V) : RoS w KB NB kcs ncs va a vs s V.drew := h.on (Below.refl _ _).drew
theorem blk_range {V : World} {B : Nat} {t : TypeId} {cs : List Value} (h : Blk V B t cs) : V.rangeAt B 0 cs := fun j v hv => by
  rw [Nat.zero_add, h.cell j]
  exact hv
/-- What opening answers. -/
def Opened (k n a s : List UInt8) (w : World) (e : Ending) (w' : World) : Prop := ∃ v, e = .returned (.tuple #[v, .int .i64 (openE k n a s : Nat)]) ∧ Rd w' v (openP k n a s) ∧ Below w.heap.size w w'
set_option maxRecDepth 100000 in
set_option maxHeartbeats 4000000 in
theorem refOpen_any (k n : List UInt8) (va vs : Value) (a s : List UInt8) (w : World) (hk : k.length = 32) (hn : n.length = 12) (ha : Rd w va a) (hs : Rd w vs s) (la : a.length ≤ 100000) (ls : s.length ≤ 100000) :
    Calls Tryd.prog 14 #[arrV k, arrV n, va, vs] w (Opened k n a s w) := by
  obtain ⟨i0, hi, hz0, hz1, hz2⟩ := info_parts info_u8
  have HSD := Lib.hid hs
  obtain ⟨Aa, ca, rfl, _⟩ := ha.form
  obtain ⟨As, cs, rfl, hs1, hs2, _⟩ := hs.form
  have HIK : Hid ((Tryd.prog.info? 22).map (·.size) = some 32) := by show _ = _; kernel_rfl
  have HIN : Hid ((Tryd.prog.info? 24).map (·.size) = some 12) := by show _ = _; kernel_rfl
  have HKL := Lib.hid hk
  have HNL := Lib.hid hn
  obtain ⟨kcs, hkc⟩ : ∃ cs, cs = k.map bv := ⟨_, rfl⟩
  obtain ⟨ncs, hnc⟩ : ∃ cs, cs = n.map bv := ⟨_, rfl⟩
  have HKM : Hid (kcs.length = 32) := by show _ = _; rw [hkc, List.length_map, hk]
  have HNM : Hid (ncs.length = 12) := by show _ = _; rw [hnc, List.length_map, hn]
  have LA : Hid (a.length ≤ 100000) := Lib.hid la
  have LS : Hid (s.length ≤ 100000) := Lib.hid ls
  have ek : arrV k = .agg kcs.toArray := by rw [hkc]; rfl
  have en : arrV n = .agg ncs.toArray := by rw [hnc]; rfl
  have HEK := Lib.hid ek
  have HEN := Lib.hid en
  rw [ek, en]
  obtain ⟨W0, hW0⟩ : ∃ W : World, W = (w.alloc (.cells kcs.toArray 22)).alloc (.cells ncs.toArray 24) := ⟨_, rfl⟩
  obtain ⟨KB, hKB⟩ : ∃ B, B = w.heap.size := ⟨_, rfl⟩
  obtain ⟨NB, hNB⟩ : ∃ B, B = w.heap.size + 1 := ⟨_, rfl⟩
  have D0 : Below w.heap.size w W0 := by rw [hW0]; exact (((Below.refl _ _).alloc (Nat.le_refl _) _).alloc (by simp) _)
  have hC : RoS w KB NB kcs ncs (.slice Aa a.length ca) a (.slice As s.length cs) s W0 := by
    refine ⟨D0, ?_, ?_, ha.below D0, hs.below D0⟩
    · rw [hW0, hKB]; exact (Blk.made w _ _).alloc _
    · have h := Blk.made (w.alloc (.cells kcs.toArray 22)) 24 ncs
      rw [World.size_alloc] at h
      rw [hW0, hNB]
      exact h
  have HC := Lib.hid hC
  have HKB := Lib.hid hKB
  have HNB := Lib.hid hNB
  clear hk hn ha hs la hkc hnc ek en D0 hC hKB hNB
  unfold maxLen at hs2
  by_cases h16 : s.length < 16
  · have lI : (s.length : Int) < 16 := by omega
    have eE : openE k n a s = 2 := by unfold openE; rw [if_pos h16]
    have eP : openP k n a s = [] := by unfold openP; rw [eE]; rfl
    subst hW0
    have D0 := HC.out.low
    clear HC
    go_enter Tryd.func14, Tryd.ntmps14
    go_wp2_with (first
      | refine Go.Great.wpList_boxTo rfl _ _ rfl _ rfl w.heap.size rfl (kcs.toArray) rfl ?_
      | refine Go.Great.wpList_boxTo rfl _ _ rfl _ rfl (w.heap.size + 1) (by simp) (ncs.toArray) rfl ?_)
    go_ret2
    unfold Opened
    rw [eE, eP]
    exact ⟨_, rfl, Rd.nil _, D0⟩
  by_cases h41 : 4112 < s.length
  · have lI1 : (16 : Int) ≤ s.length := by omega
    have lI : (4112 : Int) < (s.length : Int) := by omega
    have eE : openE k n a s = 3 := by unfold openE; rw [if_neg h16, if_pos h41]
    have eP : openP k n a s = [] := by unfold openP; rw [eE]; rfl
    subst hW0
    have D0 := HC.out.low
    clear HC h16
    go_enter Tryd.func14, Tryd.ntmps14
    go_wp2_with (first
      | refine Go.Great.wpList_boxTo rfl _ _ rfl _ rfl w.heap.size rfl (kcs.toArray) rfl ?_
      | refine Go.Great.wpList_boxTo rfl _ _ rfl _ rfl (w.heap.size + 1) (by simp) (ncs.toArray) rfl ?_)
    go_ret2
    unfold Opened
    rw [eE, eP]
    exact ⟨_, rfl, Rd.nil _, D0⟩
  have lI1 : (16 : Int) ≤ s.length := by omega
  have lI2 : (s.length : Int) ≤ 4112 := by omega
  have H16 : Hid (16 ≤ s.length ∧ ¬ 4112 < s.length) := Lib.hid (by omega)
  obtain ⟨cc, hcc⟩ : ∃ cc, cc = s.length - 16 := ⟨_, rfl⟩
  have ecc : (s.length : Int) - 16 = (cc : Int) := by omega
  have hccl : cc ≤ s.length := by omega
  obtain ⟨A1, c1, S1, r1⟩ := HSD.out.high (P := Tryd.prog) 26 5 i0 Tryd.underlying26 hi hz1 cc hccl
  have ecc2 : IntKind.i64.wrap ((s.length : Int) - 16) = (cc : Int) := by rw [ecc]; exact IntWalk.i64_in _ (by omega)
  have cI0 : (0 : Int) ≤ cc := by omega
  have HX : Hid (∀ V, RoS w KB NB kcs ncs (.slice Aa a.length ca) a (.slice As s.length cs) s V → Calls Tryd.prog 21 #[.agg kcs.toArray, .agg ncs.toArray, .int .u32 1, .slice A1 cc c1] V fun e V' => ∃ u, e = .returned u ∧ Rd V' u (chaXor k n 1 (s.take cc)) ∧ RoS w KB NB kcs ncs (.slice Aa a.length ca) a (.slice As s.length cs) s V') := Lib.hid fun V hV => by
    obtain ⟨A2, c2, S2, r2⟩ := hV.rs.high (P := Tryd.prog) 26 5 i0 Tryd.underlying26 hi hz1 cc hccl
    have e : Value.slice A2 cc c2 = .slice A1 cc c1 := by
      have h1 := S1 V
      have h2 := S2 V
      rw [h1] at h2
      simpa using h2.symm
    rw [e] at r2
    rw [← HEK.out, ← HEN.out]
    exact (refXor_any (.slice A1 cc c1) k n (s.take cc) 1 V HKL.out HNL.out (by omega) r2 (by rw [List.length_take]; have := LS.out; omega)).mono fun e V' h => by
      obtain ⟨u, h1, h2, h3⟩ := h.fresh
      exact ⟨u, h1, h2, hV.on h3⟩
  have hu1 := Tryd.underlying22
  have hu2 := Tryd.underlying24
  have hsi1 : (Tryd.prog.info? 22).map (·.size) = some kcs.length := by rw [HKM.out]; exact HIK.out
  have hsi2 : (Tryd.prog.info? 24).map (·.size) = some ncs.length := by rw [HNM.out]; exact HIN.out
  have HCC := Lib.hid hcc
  clear r1 h16 h41 hcc HSD hs1 ls ecc
  go_enter Tryd.func14, Tryd.ntmps14
  go_upto_region 1 with (first
    | refine Go.Great.wpList_boxTo rfl _ _ rfl _ rfl w.heap.size rfl (kcs.toArray) rfl ?_
    | refine Go.Great.wpList_boxTo rfl _ _ rfl _ rfl (w.heap.size + 1) (by simp) (ncs.toArray) rfl ?_)
  rw [← hW0, ← HNB.out, ← HKB.out]
  clear hW0
  go_upto_region 5 with (fail)
  have hC := HC.out
  refine wp_region_held_drew (S := (RoS w KB NB kcs ncs (.slice Aa a.length ca) a (.slice As s.length cs) s)) (by kernel_rfl) ?_ (fun hHeld => ?_)
  · (first | assumption | exact RoS.drew (by assumption))
  refine take_put (i := 2) (oi := _) (v := ?_) 19 rfl rfl (by kernel_rfl) (by kernel_rfl) (by kernel_rfl) (fun _ _ _ h => h) (Or.inl ⟨by rfl, ?hy2⟩) (by assumption) ?_
  case hy2 => ((intro W hSw); (try dsimp only at hSw); go_simp; try (with_reducible rfl))
  simp only [List.set_cons_zero, List.set_cons_succ]
  refine take_put (i := 3) (oi := _) (v := ?_) 20 rfl rfl (by kernel_rfl) (by kernel_rfl) (by kernel_rfl) (fun _ _ _ h => h) (Or.inl ⟨by rfl, ?hy3⟩) (by assumption) ?_
  case hy3 => ((intro W hSw); (try dsimp only at hSw); go_simp; try (with_reducible rfl))
  simp only [List.set_cons_zero, List.set_cons_succ]
  refine take_put (i := 4) (oi := _) (v := ?_) 21 rfl rfl (by kernel_rfl) (by kernel_rfl) (by kernel_rfl) (fun _ _ _ h => h) (Or.inl ⟨by rfl, ?hy4⟩) (by assumption) ?_
  case hy4 => ((intro W hSw); (try dsimp only at hSw); go_simp; try (with_reducible rfl))
  simp only [List.set_cons_zero, List.set_cons_succ]
  refine take_put (i := 5) (oi := _) (v := ?_) 22 rfl rfl (by kernel_rfl) (by kernel_rfl) (by kernel_rfl) (fun _ _ _ h => h) (Or.inl ⟨by rfl, ?hy5⟩) (by assumption) ?_
  case hy5 => ((intro W hSw); (try dsimp only at hSw); go_simp; try (with_reducible rfl))
  simp only [List.set_cons_zero, List.set_cons_succ]
  refine take_put (i := 6) (oi := _) (v := ?_) 23 rfl rfl (by kernel_rfl) (by kernel_rfl) (by kernel_rfl) (fun _ _ _ h => h) (Or.inl ⟨by rfl, ?hy6⟩) (by assumption) ?_
  case hy6 => ((intro W hSw); (try dsimp only at hSw); go_simp; try (with_reducible rfl))
  simp only [List.set_cons_zero, List.set_cons_succ]
  refine take_put (i := 0) (oi := _) (v := _) 17 rfl rfl (by kernel_rfl) (by kernel_rfl) (by kernel_rfl) (fun _ _ _ h => h) (yieldsIf_load_mid (by rfl) _ _ rfl KB 0 rfl kcs _ (fun _ h => blk_range h.kb) hu1 rfl hsi1) (by assumption) ?_
  simp only [List.set_cons_zero, List.set_cons_succ]
  refine take_put (i := 1) (oi := _) (v := _) 18 rfl rfl (by kernel_rfl) (by kernel_rfl) (by kernel_rfl) (fun _ _ _ h => h) (yieldsIf_load_mid (by rfl) _ _ rfl NB 0 rfl ncs _ (fun _ h => blk_range h.nb) hu2 rfl hsi2) (by assumption) ?_
  simp only [List.set_cons_zero, List.set_cons_succ]
  refine wpAnyH_ready (rs := [7]) (by kernel_rfl) (by simp) ?_
  refine AllReadyH.cons (o := _) rfl (fun K hK => ?_) AllReadyH.nil
  go_simp
  (with_reducible refine (HX.out _ ?_).mono ?_; (first | assumption | exact RoS.drew (by assumption)); rintro e r1 ⟨u, rfl, rdu, sv1⟩)
  refine hK.out _ _ ?_ (fun hHeld => ?_)
  · (first | assumption | exact RoS.drew (by assumption))
  clear hK K
  try simp only [Act.put, List.setIfInBounds_toArray, List.set_cons_zero, List.set_cons_succ]
  refine take_put (i := 8) (oi := _) (v := ?_) 10 rfl rfl (by kernel_rfl) (by kernel_rfl) (by kernel_rfl) (fun _ _ _ h => h) (Or.inl ⟨by rfl, ?hy8⟩) (by assumption) ?_
  case hy8 => ((intro W hSw); (try dsimp only at hSw); go_simp; try (with_reducible rfl))
  simp only [List.set_cons_zero, List.set_cons_succ]
  refine wpAnyH_done (by kernel_rfl) ?_ _
  have K1 := Lib.hid hHeld.kb
  have N1 := Lib.hid hHeld.nb
  have HS1 := Lib.hid hHeld
  have RU := Lib.hid rdu
  obtain ⟨Au, cu, hu, _⟩ := rdu.form
  have HU := Lib.hid hu
  clear hHeld rdu hC sv1 hu HX S1
  go_wp2_with (first
    | (refine wpList_load_blk rfl 22 (.tmp 4) rfl KB rfl 22 kcs _ K1.out Tryd.underlying22 rfl (by rw [HKM.out]; exact HIK.out) ?_)
    | (refine wpList_load_blk rfl 24 (.tmp 5) rfl NB rfl 24 ncs _ N1.out Tryd.underlying24 rfl (by rw [HNM.out]; exact HIN.out) ?_))
  have HSL : Hid (∀ V, RoS w KB NB kcs ncs (.slice Aa a.length ca) a (.slice As s.length cs) s V → Rd V u (chaXor k n 1 (s.take cc)) → Calls Tryd.prog 12 #[.agg kcs.toArray, .agg ncs.toArray, .slice Aa a.length ca, u] V fun e V' => ∃ z, e = .returned z ∧ Rd V' z (sealB k n a (chaXor k n 1 (s.take cc))) ∧ Rd V' u (chaXor k n 1 (s.take cc)) ∧ RoS w KB NB kcs ncs (.slice Aa a.length ca) a (.slice As s.length cs) s V') := Lib.hid fun V hV hr => by
    rw [← HEK.out, ← HEN.out]
    exact (refSeal_any k n _ _ a _ V HKL.out HNL.out hV.ra hr LA.out (by rw [chaXor_length, List.length_take]; have := LS.out; omega)).mono fun e V' h => by
      obtain ⟨z, h1, h2, h3⟩ := h.fresh
      exact ⟨z, h1, h2, hr.below h3, hV.on h3⟩
  refine (HSL.out _ HS1.out RU.out).mono ?_
  rintro e w2 ⟨z, rfl, rdz, ru2, hs2'⟩
  have R2 := Lib.hid ru2
  have HS2 := Lib.hid hs2'
  have RZ := Lib.hid rdz
  clear rdz ru2 hs2' HSL RU HS1 K1 N1
  go_wp2_with (fail)
  refine (same_any z (.slice As s.length cs) _ s w2 RZ.out HS2.out.rs).mono ?_
  rintro e w3 ⟨rfl, m, rfl⟩
  by_cases he : sealB k n a (chaXor k n 1 (s.take cc)) = s
  · rw [decide_eq_true he]
    have eE : openE k n a s = 0 := by
      unfold openE
      rw [HCC.out] at he
      rw [if_neg (by have := H16.out; omega), if_neg H16.out.2, if_pos ((seal_iff H16.out.1).1 he)]
    have eP : openP k n a s = chaXor k n 1 (s.take cc) := by
      unfold openP
      rw [if_pos eE, HCC.out]
    go_wp2_with (fail)
    go_ret2
    unfold Opened
    rw [eE, eP]
    exact ⟨u, rfl, R2.out.drewN m, below_drewN HS2.out.low m⟩
  · rw [decide_eq_false he]
    have eE : openE k n a s = 5 := by
      unfold openE
      rw [HCC.out] at he
      rw [if_neg (by have := H16.out; omega), if_neg H16.out.2, if_neg (fun h => he ((seal_iff H16.out.1).2 h))]
    have eP : openP k n a s = [] := by
      unfold openP
      rw [eE]
      rfl
    go_wp2_with (fail)
    go_ret2
    unfold Opened
    rw [eE, eP]
    exact ⟨_, rfl, Rd.nil _, below_drewN HS2.out.low m⟩
end Go.Proofs.YtmoffodmbbkolaaDoor

/- What the sixth layer's laws need of aead's four functions, and that the example's sealing is as the document says. Premises: the contracts themselves. -/
namespace Go.Proofs.YtmoffodmbbkolaaDoor
open Go.RowKit

/-- Sealing. -/
def SealC : Prop := ∀ (k n : List UInt8) (va vp : Value) (a p : List UInt8) (w : World), k.length = 32 → n.length = 12 → Rd w va a → Rd w vp p → a.length ≤ 300 → p.length ≤ 300 → Qs w →
  Calls Tryd.prog 9 #[arrV k, arrV n, va, vp] w fun e w' => ∃ v, e = .returned (.tuple #[v, .int .i64 0]) ∧ Rd w' v (sealB k n a p) ∧ Below w.heap.size w w'
/-- Too long to be sealed. -/
def SealL : Prop := ∀ (k n : List UInt8) (va vp : Value) (a p : List UInt8) (w : World), k.length = 32 → n.length = 12 → Rd w va a → Rd w vp p → a.length ≤ 300 → 4096 < p.length → p.length ≤ 10000 → Qs w →
  Calls Tryd.prog 9 #[arrV k, arrV n, va, vp] w fun e w' => ∃ v, e = .returned (.tuple #[v, .int .i64 3]) ∧ Rd w' v [] ∧ Below w.heap.size w w'
/-- Opening. -/
def OpenC : Prop := ∀ (k n : List UInt8) (va vs : Value) (a s : List UInt8) (w : World), k.length = 32 → n.length = 12 → Rd w va a → Rd w vs s → a.length ≤ 300 → s.length ≤ 300 → Qs w →
  Calls Tryd.prog 10 #[arrV k, arrV n, va, vs] w (Opened k n a s w)
/-- Too long to be opened. -/
def OpenL : Prop := ∀ (k n : List UInt8) (va vs : Value) (a s : List UInt8) (w : World), k.length = 32 → n.length = 12 → Rd w va a → Rd w vs s → a.length ≤ 300 → 4112 < s.length → s.length ≤ 10000 → Qs w →
  Calls Tryd.prog 10 #[arrV k, arrV n, va, vs] w fun e w' => ∃ v, e = .returned (.tuple #[v, .int .i64 3]) ∧ Rd w' v [] ∧ Below w.heap.size w w'
/-- A node's nonce of a count. -/
def NonceC : Prop := ∀ (node count : Nat) (w : World), node < 65536 → count < 18446744073709551616 →
  Calls Tryd.prog 15 #[.int .u16 (node : Int), .int .u64 (count : Int)] w fun e w' => e = .returned (.tuple #[arrV (if 4611686018427387904 < count then List.replicate 12 0 else nonceB node count), .int .i64 (if 4611686018427387904 < count then 12 else 0)]) ∧ Below w.heap.size w w'
/-- A nonce's node and count. -/
def CountC : Prop := ∀ (node count : Nat) (w : World), node < 65536 → count < 18446744073709551616 →
  Calls Tryd.prog 16 #[arrV (nonceB node count)] w fun e w' => e = .returned (.tuple #[.int .u16 (node : Int), .int .u64 (count : Int)]) ∧ Below w.heap.size w w'
end Go.Proofs.YtmoffodmbbkolaaDoor

/- The document's example of layer 6. Premises: aead.Seal's contract; the table of the places as it is laid. -/
namespace Go.Proofs.YtmoffodmbbkolaaDoor
open Go.RowKit

/-- n bytes, the first i of them x. -/
def fillB (n : Nat) (x : UInt8) (i : Nat) : List UInt8 := List.replicate i x ++ List.replicate (n - i) 0
theorem fillB_set {n i : Nat} {x : UInt8} (h : i < n) : (fillB n x i).set i x = fillB n x (i + 1) := by
  unfold fillB
  rw [List.set_append_right _ _ (by simp), List.length_replicate, Nat.sub_self, show n - i = (n - (i + 1)) + 1 by omega, List.replicate_succ, List.set_cons_zero, List.replicate_succ']
  simp
theorem fillB_length {n i : Nat} {x : UInt8} (h : i ≤ n) : (fillB n x i).length = n := by unfold fillB; simp; omega
def FilRel (n : Nat) (x : UInt8) (B : Nat) (T : TypeId) (w : World) (v : Value) (W : World) : Prop :=
  ∃ i : Nat, v = .int .i64 (i : Int) ∧ i ≤ n ∧ Blk W B T ((fillB n x i).map bv) ∧ Sole w W B
noncomputable def body_ak : Code := (((Tryd.f7.body.map loopsOf).getD [])[0]?).getD .skip
set_option maxRecDepth 100000 in
set_option maxHeartbeats 1000000 in
theorem ak_loop (c0 c2 c4 c5 c6 c7 c8 c9 c10 c11 c12 c13 c14 c15 c16 c17 c18 c19 c20 c21 c22 c23 c24 c25 c26 c27 c28 c29 c30 c31 c32 c33 c34 c35 c36 c37 c38 c39 c40 c41 c42 c43 c44 c45 c46 c47 c48 c49 c50 c51 c52 c53 c54 c55 c56 c57 c58 c59 c60 c61 c62 c63 : Value) (B : Nat) (T : TypeId) (w : World) (h0 : Hid (Blk w B T ((fillB 32 1 0).map bv))) {Q : Exit → Act → World → Prop}
    (HQ : Hid (∀ (u3 u7 u8 u9 u10 u11 u12 : Value) (wx : World), Hid (Blk wx B T ((fillB 32 1 32).map bv)) → Hid (Sole w wx B) → Q (.exit 0) ⟨List.toArray (c0 :: (.pointer (some ⟨B, 0, none⟩)) :: c2 :: u3 :: c4 :: c5 :: c6 :: u7 :: u8 :: u9 :: u10 :: u11 :: u12 :: c13 :: c14 :: c15 :: c16 :: c17 :: c18 :: c19 :: c20 :: c21 :: c22 :: c23 :: c24 :: c25 :: c26 :: c27 :: c28 :: c29 :: c30 :: c31 :: c32 :: c33 :: c34 :: c35 :: c36 :: c37 :: c38 :: c39 :: c40 :: c41 :: c42 :: c43 :: c44 :: c45 :: c46 :: c47 :: c48 :: c49 :: c50 :: c51 :: c52 :: c53 :: c54 :: c55 :: c56 :: c57 :: c58 :: c59 :: c60 :: c61 :: c62 :: c63 :: []), []⟩ wx)) :
    (Code.loop body_ak).wp Tryd.prog Q ⟨List.toArray (c0 :: (.pointer (some ⟨B, 0, none⟩)) :: c2 :: (.int .i64 0) :: c4 :: c5 :: c6 :: c7 :: c8 :: c9 :: c10 :: c11 :: c12 :: c13 :: c14 :: c15 :: c16 :: c17 :: c18 :: c19 :: c20 :: c21 :: c22 :: c23 :: c24 :: c25 :: c26 :: c27 :: c28 :: c29 :: c30 :: c31 :: c32 :: c33 :: c34 :: c35 :: c36 :: c37 :: c38 :: c39 :: c40 :: c41 :: c42 :: c43 :: c44 :: c45 :: c46 :: c47 :: c48 :: c49 :: c50 :: c51 :: c52 :: c53 :: c54 :: c55 :: c56 :: c57 :: c58 :: c59 :: c60 :: c61 :: c62 :: c63 :: []), []⟩ w := by
  unfold body_ak
  conv => arg 2; arg 1; whnf
  go_loopw [3] (fun v wx => FilRel 32 1 B T w v wx) (fun v _ => 32 - (intOf v).toNat)
  case atStart => exact ⟨0, rfl, by omega, h0.out, Sole.refl _ _⟩
  case round =>
    obtain ⟨i, rfl, hi, hblk, so⟩ := hrel
    have HB := Lib.hid hblk
    have HL := Lib.hid so
    by_cases hlt : i < 32
    · have hI : (i : Int) < 32 := by omega
      have f0 : wr.frozen? ⟨B, i, none⟩ = false := hblk.free _
      obtain ⟨u, hu⟩ : ∃ u, wr.cell? ⟨B, i, none⟩ = some u := by
        refine ⟨((fillB 32 1 i).map bv)[i]'?_, ?_⟩
        · rw [List.length_map, fillB_length (by omega)]; exact hlt
        · rw [hblk.cell]; exact List.getElem?_eq_getElem _
      have HE := Lib.hid (fillB_set (x := 1) hlt)
      clear hblk so hi
      go_wp2_with (fail)
      go_roundw
      case rel =>
        have h := HB.out.set i (bv 1)
        rw [← List.map_set, HE.out] at h
        exact ⟨i + 1, by go_num, by omega, h, HL.out.trans (Sole.setCell _ B _ _)⟩
      case measure => simp [intOf]; omega
    · obtain rfl : i = 32 := by omega
      clear hblk so
      go_wp2_with (fail)
      exact HQ.out _ _ _ _ _ _ _ _ HB HL
noncomputable def body_an : Code := (((Tryd.f7.body.map loopsOf).getD [])[1]?).getD .skip
set_option maxRecDepth 100000 in
set_option maxHeartbeats 1000000 in
theorem an_loop (c0 c1 c3 c5 c6 c7 c8 c9 c10 c11 c12 c13 c14 c15 c16 c17 c18 c19 c20 c21 c22 c23 c24 c25 c26 c27 c28 c29 c30 c31 c32 c33 c34 c35 c36 c37 c38 c39 c40 c41 c42 c43 c44 c45 c46 c47 c48 c49 c50 c51 c52 c53 c54 c55 c56 c57 c58 c59 c60 c61 c62 c63 : Value) (B : Nat) (T : TypeId) (w : World) (h0 : Hid (Blk w B T ((fillB 12 2 0).map bv))) {Q : Exit → Act → World → Prop}
    (HQ : Hid (∀ (u4 u13 u14 u15 u16 u17 u18 : Value) (wx : World), Hid (Blk wx B T ((fillB 12 2 12).map bv)) → Hid (Sole w wx B) → Q (.exit 2) ⟨List.toArray (c0 :: c1 :: (.pointer (some ⟨B, 0, none⟩)) :: c3 :: u4 :: c5 :: c6 :: c7 :: c8 :: c9 :: c10 :: c11 :: c12 :: u13 :: u14 :: u15 :: u16 :: u17 :: u18 :: c19 :: c20 :: c21 :: c22 :: c23 :: c24 :: c25 :: c26 :: c27 :: c28 :: c29 :: c30 :: c31 :: c32 :: c33 :: c34 :: c35 :: c36 :: c37 :: c38 :: c39 :: c40 :: c41 :: c42 :: c43 :: c44 :: c45 :: c46 :: c47 :: c48 :: c49 :: c50 :: c51 :: c52 :: c53 :: c54 :: c55 :: c56 :: c57 :: c58 :: c59 :: c60 :: c61 :: c62 :: c63 :: []), []⟩ wx)) :
    (Code.loop body_an).wp Tryd.prog Q ⟨List.toArray (c0 :: c1 :: (.pointer (some ⟨B, 0, none⟩)) :: c3 :: (.int .i64 0) :: c5 :: c6 :: c7 :: c8 :: c9 :: c10 :: c11 :: c12 :: c13 :: c14 :: c15 :: c16 :: c17 :: c18 :: c19 :: c20 :: c21 :: c22 :: c23 :: c24 :: c25 :: c26 :: c27 :: c28 :: c29 :: c30 :: c31 :: c32 :: c33 :: c34 :: c35 :: c36 :: c37 :: c38 :: c39 :: c40 :: c41 :: c42 :: c43 :: c44 :: c45 :: c46 :: c47 :: c48 :: c49 :: c50 :: c51 :: c52 :: c53 :: c54 :: c55 :: c56 :: c57 :: c58 :: c59 :: c60 :: c61 :: c62 :: c63 :: []), []⟩ w := by
  unfold body_an
  conv => arg 2; arg 1; whnf
  go_loopw [4] (fun v wx => FilRel 12 2 B T w v wx) (fun v _ => 12 - (intOf v).toNat)
  case atStart => exact ⟨0, rfl, by omega, h0.out, Sole.refl _ _⟩
  case round =>
    obtain ⟨i, rfl, hi, hblk, so⟩ := hrel
    have HB := Lib.hid hblk
    have HL := Lib.hid so
    by_cases hlt : i < 12
    · have hI : (i : Int) < 12 := by omega
      have f0 : wr.frozen? ⟨B, i, none⟩ = false := hblk.free _
      obtain ⟨u, hu⟩ : ∃ u, wr.cell? ⟨B, i, none⟩ = some u := by
        refine ⟨((fillB 12 2 i).map bv)[i]'?_, ?_⟩
        · rw [List.length_map, fillB_length (by omega)]; exact hlt
        · rw [hblk.cell]; exact List.getElem?_eq_getElem _
      have HE := Lib.hid (fillB_set (x := 2) hlt)
      clear hblk so hi
      go_wp2_with (fail)
      go_roundw
      case rel =>
        have h := HB.out.set i (bv 2)
        rw [← List.map_set, HE.out] at h
        exact ⟨i + 1, by go_num, by omega, h, HL.out.trans (Sole.setCell _ B _ _)⟩
      case measure => simp [intOf]; omega
    · obtain rfl : i = 12 := by omega
      clear hblk so
      go_wp2_with (fail)
      exact HQ.out _ _ _ _ _ _ _ _ HB HL
set_option maxRecDepth 100000 in
set_option maxHeartbeats 2000000 in
theorem aeadAwake_any (HS : SealC) (w : World) (hq : Qs w) :
    Calls Tryd.prog 7 #[] w fun e w' => e = .returned (.bool true) ∧ Below w.heap.size w w' := by
  have HIK : Hid ((Tryd.prog.info? 23).map (·.size) = some 32) := by show _ = _; kernel_rfl
  have HIN : Hid ((Tryd.prog.info? 25).map (·.size) = some 12) := by show _ = _; kernel_rfl
  obtain ⟨W0, hW0⟩ : ∃ W : World, W = (w.alloc (.cells #[Value.int .u8 0, Value.int .u8 0, Value.int .u8 0, Value.int .u8 0, Value.int .u8 0, Value.int .u8 0, Value.int .u8 0, Value.int .u8 0, Value.int .u8 0, Value.int .u8 0, Value.int .u8 0, Value.int .u8 0, Value.int .u8 0, Value.int .u8 0, Value.int .u8 0, Value.int .u8 0, Value.int .u8 0, Value.int .u8 0, Value.int .u8 0, Value.int .u8 0, Value.int .u8 0, Value.int .u8 0, Value.int .u8 0, Value.int .u8 0, Value.int .u8 0, Value.int .u8 0, Value.int .u8 0, Value.int .u8 0, Value.int .u8 0, Value.int .u8 0, Value.int .u8 0, Value.int .u8 0] 23)).alloc (.cells #[Value.int .u8 0, Value.int .u8 0, Value.int .u8 0, Value.int .u8 0, Value.int .u8 0, Value.int .u8 0, Value.int .u8 0, Value.int .u8 0, Value.int .u8 0, Value.int .u8 0, Value.int .u8 0, Value.int .u8 0] 25) := ⟨_, rfl⟩
  have D0 : Hid (Below w.heap.size w W0) := Lib.hid (by rw [hW0]; exact (((Below.refl _ _).alloc (Nat.le_refl _) _).alloc (by simp) _))
  have K0 : Hid (Blk W0 w.heap.size 23 ((fillB 32 1 0).map bv)) := Lib.hid (by rw [hW0]; exact (Blk.made w 23 ((fillB 32 1 0).map bv)).alloc _)
  have N0 : Hid (Blk W0 (w.heap.size + 1) 25 ((fillB 12 2 0).map bv)) := Lib.hid (by
    have h := Blk.made (w.alloc (.cells (List.replicate 32 (Value.int .u8 0)).toArray 23)) 25 ((fillB 12 2 0).map bv)
    rw [World.size_alloc] at h
    rw [hW0]
    exact h)
  have HQ0 := Lib.hid hq
  clear hq
  go_enter Tryd.func7, Tryd.ntmps7
  go_upto_region 3 with (fail)
  rw [← hW0]
  clear hW0
  go_wp2_with (fail)
  refine ak_loop _ _ _ _ _ _ _ _ _ _ _ _ _ _ _ _ _ _ _ _ _ _ _ _ _ _ _ _ _ _ _ _ _ _ _ _ _ _ _ _ _ _ _ _ _ _ _ _ _ _ _ _ _ _ _ _ _ _ _ _ _ _ w.heap.size 23 W0 K0 (Lib.hid ?_)
  intro u3 u7 u8 u9 u10 u11 u12 w1 hb1 hs1
  have N1 := Lib.hid (hs1.out.blk N0.out (by omega))
  have D1 : Hid (Below w.heap.size w w1) := Lib.hid (D0.out.trans hs1.out.below)
  clear hs1 N0 D0 K0
  go_wp2_with (fail)
  refine an_loop _ _ _ _ _ _ _ _ _ _ _ _ _ _ _ _ _ _ _ _ _ _ _ _ _ _ _ _ _ _ _ _ _ _ _ _ _ _ _ _ _ _ _ _ _ _ _ _ _ _ _ _ _ _ _ _ _ _ _ _ _ _ (w.heap.size + 1) 25 w1 N1 (Lib.hid ?_)
  intro u4 u13 u14 u15 u16 u17 u18 w2 hb2 hs2
  have K2 := Lib.hid (hs2.out.blk hb1.out (by omega))
  have D2 : Hid (Below w.heap.size w w2) := Lib.hid (D1.out.trans (hs2.out.below.mono (by omega)))
  have HKL : Hid (((fillB 32 1 32).map bv).length = 32) := Lib.hid rfl
  have HNL : Hid (((fillB 12 2 12).map bv).length = 12) := Lib.hid rfl
  clear hs2 N1 D1 hb1
  have Q2 : Hid (Qs w2) := Lib.hid (HQ0.out.below D2.out)
  go_wp2_with (first
    | (refine wpList_load_blk rfl 23 (.tmp 1) rfl w.heap.size rfl 23 _ _ K2.out Tryd.underlying23 rfl (by rw [HKL.out]; exact HIK.out) ?_)
    | (refine wpList_load_blk rfl 25 (.tmp 2) rfl (w.heap.size + 1) rfl 25 _ _ hb2.out Tryd.underlying25 rfl (by rw [HNL.out]; exact HIN.out) ?_))
  have RA : Hid (Rd ((w2.alloc (.cells #[Value.int .u8 3] 5)).alloc (.cells #[Value.int .u8 4, Value.int .u8 5] 5)) (.slice (some ⟨w2.heap.size, 0, none⟩) 1 1) [3]) := Lib.hid ((Blk.rd (xs := [3]) (Blk.made w2 5 ([3].map bv)) 1 1 (by simp) (by omega) (by unfold maxLen; omega)).alloc _)
  have RP : Hid (Rd ((w2.alloc (.cells #[Value.int .u8 3] 5)).alloc (.cells #[Value.int .u8 4, Value.int .u8 5] 5)) (.slice (some ⟨w2.heap.size + 1, 0, none⟩) 2 2) [4, 5]) := Lib.hid (by
    have h := Blk.rd (xs := [4, 5]) (Blk.made (w2.alloc (.cells #[Value.int .u8 3] 5)) 5 ([4, 5].map bv)) 2 2 (by simp) (by omega) (by unfold maxLen; omega)
    rw [World.size_alloc] at h
    exact h)
  have DA : Hid (Below w.heap.size w ((w2.alloc (.cells #[Value.int .u8 3] 5)).alloc (.cells #[Value.int .u8 4, Value.int .u8 5] 5))) := Lib.hid ((D2.out.alloc D2.out.size _).alloc (by have := D2.out.size; simp; omega) _)
  refine (HS (fillB 32 1 32) (fillB 12 2 12) _ _ [3] [4, 5] _ rfl rfl RA.out RP.out (by simp) (by simp) (HQ0.out.below DA.out)).mono ?_
  rintro e w3 ⟨v, rfl, hr, hb3⟩
  have D3 : Hid (Below w.heap.size w w3) := Lib.hid (DA.out.trans (hb3.mono DA.out.size))
  have hx : sealB (fillB 32 1 32) (fillB 12 2 12) [3] [4, 5] = [226, 25, 71, 97, 33, 111, 36, 112, 79, 202, 22, 132, 155, 132, 156, 18, 188, 33] := seal_example
  rw [hx] at hr
  obtain ⟨A, c, rfl, _, _, hq⟩ := hr.form
  obtain ⟨b, off, rfl, _, q5⟩ := hq (by simp)
  have c0 : w3.cell? ⟨b, off, none⟩ = some (.int .u8 226) := q5 0 (by simp)
  have c1 : w3.cell? ⟨b, off + 1, none⟩ = some (.int .u8 25) := q5 1 (by simp)
  have c2 : w3.cell? ⟨b, off + 2, none⟩ = some (.int .u8 71) := q5 2 (by simp)
  have c3 : w3.cell? ⟨b, off + 3, none⟩ = some (.int .u8 97) := q5 3 (by simp)
  have c17 : w3.cell? ⟨b, off + 17, none⟩ = some (.int .u8 33) := q5 17 (by simp)
  clear hx hr hq q5 hb3 RA RP DA K2 hb2 Q2 D2
  simp only [List.length_cons, List.length_nil]
  go_wp2_with (fail)
  go_ret
  exact ⟨rfl, D3.out⟩
end Go.Proofs.YtmoffodmbbkolaaDoor
