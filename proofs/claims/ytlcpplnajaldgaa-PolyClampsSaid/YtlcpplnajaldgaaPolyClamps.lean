/- What is proved: 'PolyClamps' (law 5) returns true whatever comes in: with any others in the place of a key's bits that don't count the tag is the same; the arguments read afterwards as before.
   Conditions: none of its own. -/
import Derived.Test.YtlcpplnajaldgaaPTag
import Derived.Test.YtlcpplnajaldgaaPClm
import Derived.Test.YtlcpplnajaldgaaStepL
import Derived.Test.YtlcpplnajaldgaaArrAll
import Derived.Test.YtlcpplnajaldgaaArrIn
import Derived.ProofKit
import Derived.OpenShut
import Derived.Carry
import Derived.Deep.Cut
namespace Go.Proofs.Ytlcpplnajaldgaa.polyClamps
open Go.ChangeShapes Go.WideShapes Go.ChangeAt Go.RowKit

theorem slice_info : (Try.prog.info? 24).map (fun i => (i.zero, i.size, i.bytes)) = some (some (.slice none 0 0), 1, 24) := by kernel_rfl
/-- What stands through the last statement. -/
structure CS (w : World) (KB OB : Nat) (v1 : Value) (x1 : List UInt8) (kcs ocs : List Value) (V : World) : Prop where
  low : Below w.heap.size w V
  kb : Blk V KB 23 kcs
  ob : Blk V OB 23 ocs
  rd : Rd V v1 x1
theorem CS.on {w V V' : World} {KB OB : Nat} {v1 : Value} {x1 : List UInt8} {kcs ocs : List Value} (h : CS w KB OB v1 x1 kcs ocs V) (hb : Below V.heap.size V V') : CS w KB OB v1 x1 kcs ocs V' :=
  ⟨h.low.trans (hb.mono h.low.size), h.kb.below hb h.kb.lt, h.ob.below hb h.ob.lt, h.rd.below hb⟩
set_option maxRecDepth 100000 in
set_option maxHeartbeats 2000000 in
theorem walk (x0 : List UInt8) (v1 : Value) (x1 x2 : List UInt8) (w : World) (l0 : x0.length = 32) (k1 : Rd w v1 x1) (l2 : x2.length = 16) :
    Calls Try.prog 6 #[.agg (x0.map bv).toArray, v1, .agg (x2.map bv).toArray] w fun e w' => e = .returned (.bool true) ∧ Below w.heap.size w w' := by
  obtain ⟨A, c, rfl, hc1, hc2, _⟩ := k1.form
  have R1 := Lib.hid k1
  have HIK : Hid ((Try.prog.info? 23).map (·.size) = some 32) := by show _ = _; kernel_rfl
  unfold maxLen at hc2
  have L0 := Lib.hid l0
  have L2 := Lib.hid l2
  have HKM : Hid ((x0.map bv).length = 32) := by show _ = _; rw [List.length_map, l0]
  obtain ⟨W1, hW1⟩ : ∃ W : World, W = (w.alloc (.cells (x0.map bv).toArray 23)).alloc (.cells (x2.map bv).toArray 28) := ⟨_, rfl⟩
  have S1 : Hid (W1.heap.size = w.heap.size + 1 + 1) := Lib.hid (by rw [hW1]; simp)
  have K1 : Hid (Blk W1 w.heap.size 23 (x0.map bv)) := Lib.hid (by rw [hW1]; exact (Blk.made w _ _).alloc _)
  have B1 : Hid (Blk W1 (w.heap.size + 1) 28 (x2.map bv)) := Lib.hid (by
    have h := Blk.made (w.alloc (.cells (x0.map bv).toArray 23)) 28 (x2.map bv)
    rw [World.size_alloc] at h
    rw [hW1]
    exact h)
  have D1 : Hid (Below w.heap.size w W1) := Lib.hid (by rw [hW1]; exact ((Below.refl _ _).alloc (Nat.le_refl _) _).alloc (by simp) _)
  clear k1 l0 l2
  by_cases h0 : 300 < x1.length
  · have lI : (300 : Int) < (x1.length : Int) := by omega
    subst hW1
    go_enter Try.func6, Try.ntmps6
    go_wp2_with (first
      | refine Go.Great.wpList_boxTo rfl _ _ rfl _ rfl w.heap.size rfl ((x0.map bv).toArray) rfl ?_
      | refine Go.Great.wpList_boxTo rfl _ _ rfl _ rfl (w.heap.size + 1) (by simp) ((x2.map bv).toArray) rfl ?_)
    refine (polAwake_any tagc _).mono ?_
    rintro e w3 ⟨rfl, hb3⟩
    go_wp2_with (fail)
    go_ret
    exact ⟨rfl, D1.out.trans (hb3.mono D1.out.size)⟩
  have lI0 : (x1.length : Int) ≤ 300 := by omega
  have HL : Hid (x1.length ≤ 300) := Lib.hid (by omega)
  have HWN := Lib.hid hW1
  have O1 : Hid (Blk (W1.alloc (.cells (List.replicate 32 (Value.int .u8 0)).toArray 23)) W1.heap.size 23 (List.replicate 32 (Value.int .u8 0))) := Lib.hid (Blk.made W1 _ _)
  go_enter Try.func6, Try.ntmps6
  go_upto_region 1 with (first
    | refine Go.Great.wpList_boxTo rfl _ _ rfl _ rfl w.heap.size rfl ((x0.map bv).toArray) rfl ?_
    | refine Go.Great.wpList_boxTo rfl _ _ rfl _ rfl (w.heap.size + 1) (by simp) ((x2.map bv).toArray) rfl ?_)
  rw [← hW1]
  clear hW1
  go_wp2_with (first
    | (refine wpList_load_blk rfl 23 (.tmp 3) rfl w.heap.size rfl 23 (x0.map bv) _ K1.out Try.underlying23 rfl (by rw [HKM.out]; exact HIK.out) ?_)
    | (refine wpList_store_blk rfl 23 (.tmp 7) (.tmp 14) rfl W1.heap.size 23 _ O1.out (x0.map bv) rfl rfl (by rw [HKM.out]; rfl) (by rw [HKM.out]; exact HIK.out) (bv_one _) ?_
       intro w3 hb3 hs3))
  have O3 := Lib.hid hb3
  have SS := S1.out
  have K3 := Lib.hid (hs3.blk (K1.out.alloc _) (by omega))
  have B3 := Lib.hid (hs3.blk (B1.out.alloc _) (by omega))
  have D3 : Hid (Below w.heap.size w w3) := Lib.hid ((D1.out.alloc D1.out.size _).trans (hs3.below.mono (by omega)))
  clear hb3 hs3 O1
  refine cla_loop _ _ _ _ _ _ _ _ _ _ _ _ _ _ _ _ _ _ _ _ _ _ _ _ _ _ _ _ _ _ _ _ _ _ _ _ _ _ _ _ _ _ _ _ _ _ _ _ _ _ _ _ _ _ (w.heap.size + 1) W1.heap.size 28 x0 x2 x0 w3 L2 (by omega) B3 (Lib.hid ⟨L0.out, rfl, rfl⟩) O3 (Lib.hid ?_)
  intro u8 u15 u16 u17 u18 u19 u20 u21 u22 u23 u24 u25 u26 u27 u28 u29 o4 w4 lk4 hb4 hs4
  have SS := S1.out
  have K4 := Lib.hid (hs4.out.blk K3.out (by omega))
  have B4 := Lib.hid (hs4.out.blk B3.out (by omega))
  have D4 : Hid (Below w.heap.size w w4) := Lib.hid (D3.out.trans (hs4.out.below.mono (by omega)))
  clear hs4 K3 B3 O3 D3
  go_wp2_with (fail)
  refine clb_loop _ _ _ _ _ _ _ _ _ _ _ _ _ _ _ _ _ _ _ _ _ _ _ _ _ _ _ _ _ _ _ _ _ _ _ _ _ _ _ _ _ _ _ _ _ _ _ _ _ _ _ _ _ _ (w.heap.size + 1) W1.heap.size 28 x0 x2 o4 w4 L2 (by omega) B4 lk4 hb4 (Lib.hid ?_)
  intro u9 u30 u31 u32 u33 u34 u35 u36 u37 u38 u39 u40 u41 u42 u43 u44 o5 w5 lk5 hb5 hs5
  have SS := S1.out
  obtain ⟨kcs, hkc⟩ : ∃ cs, cs = x0.map bv := ⟨_, rfl⟩
  obtain ⟨ocs, hoc⟩ : ∃ cs, cs = o5.map bv := ⟨_, rfl⟩
  obtain ⟨cs, hcs⟩ : ∃ cs, cs = (tagB x0 x1).map bv := ⟨_, rfl⟩
  obtain ⟨KB, hKB⟩ : ∃ B, B = w.heap.size := ⟨_, rfl⟩
  obtain ⟨OB, hOB⟩ : ∃ B, B = W1.heap.size := ⟨_, rfl⟩
  have hC : CS w KB OB (.slice A x1.length c) x1 kcs ocs w5 := by
    have D5 : Below w.heap.size w w5 := D4.out.trans (hs5.out.below.mono (by omega))
    exact ⟨D5, by rw [hKB, hkc]; exact hs5.out.blk K4.out (by omega), by rw [hOB, hoc]; exact hb5.out, R1.out.below D5⟩
  have HT1 : Hid (∀ V u, Rs V u [x1] → Calls Try.prog 12 #[.agg kcs.toArray, u] V fun e V' => e = .returned (.agg cs.toArray) ∧ Below V.heap.size V V') := Lib.hid fun V u hr => by
    have h := tagc x0 u [x1] V L0.out (.inl hr) (by simp) (by simpa using HL.out)
    rw [List.flatten_singleton] at h
    rw [hkc, hcs]
    exact h
  have HT2 : Hid (∀ V u, Rs V u [x1] → Calls Try.prog 12 #[.agg ocs.toArray, u] V fun e V' => e = .returned (.agg cs.toArray) ∧ Below V.heap.size V V') := Lib.hid fun V u hr => by
    have h := tagc o5 u [x1] V lk5.out.1 (.inl hr) (by simp) (by simpa using HL.out)
    rw [List.flatten_singleton, tag_same x1 lk5.out.2.1 lk5.out.2.2] at h
    rw [hoc, hcs]
    exact h
  have HA : Hid (∀ V, CS w KB OB (.slice A x1.length c) x1 kcs ocs V → Calls Try.prog 8 #[] V fun e V' => e = .returned (.bool true) ∧ CS w KB OB (.slice A x1.length c) x1 kcs ocs V') := Lib.hid fun V hV => (polAwake_any tagc V).mono fun e V' ⟨he, hb⟩ => ⟨he, hV.on hb⟩
  have hx : ∀ W, (Op.equalIn 10000 29 (.agg cs.toArray) (.agg cs.toArray)).run Try.prog W = .ok true W := fun W => by
    obtain ⟨i0, hi, hz0, hz1, hz2⟩ := info_parts info_u8
    have h := run_equal_bytes W 29 5 16 i0 Try.underlying29 Try.underlying5 hi hz1 (tagB x0 x1) (tagB x0 x1) (tagB_length _ _) (tagB_length _ _)
    rw [← hcs] at h
    simpa [Op.equal, Op.maxDepth] using h
  have hu := Try.underlying23
  have hsi1 : (Try.prog.info? 23).map (·.size) = some kcs.length := by rw [hkc, HKM.out]; exact HIK.out
  have hsi2 : (Try.prog.info? 23).map (·.size) = some ocs.length := by rw [hoc, List.length_map, lk5.out.1]; exact HIK.out
  have HKB := Lib.hid hKB
  have HOB := Lib.hid hOB
  obtain ⟨i0, hi0, hz0, hz1, hz2⟩ := info_parts slice_info
  rw [← hKB, ← hOB]
  clear hKB hOB hkc hoc hcs hs5 hb5 lk5 lk4 hb4 K4 B4 D4 K1 B1 D1 S1 SS HWN R1
  go_upto_region 12 with (fail)
  refine wp_region_held_drew (S := CS w KB OB (.slice A x1.length c) x1 kcs ocs) (by kernel_rfl) (hC.on (Below.refl _ _).drew) (fun hHeld => ?_)
  refine take_put (i := 1) (oi := _) (v := ?_) 46 rfl rfl (by kernel_rfl) (by kernel_rfl) (by kernel_rfl) (fun _ _ _ h => h) (Or.inl ⟨by rfl, ?hy1⟩) (by assumption) ?_
  case hy1 => ((intro W hSw); (try dsimp only at hSw); go_simp; try (with_reducible rfl))
  simp only [List.set_cons_zero, List.set_cons_succ]
  refine take_put (i := 5) (oi := _) (v := ?_) 50 rfl rfl (by kernel_rfl) (by kernel_rfl) (by kernel_rfl) (fun _ _ _ h => h) (Or.inl ⟨by rfl, ?hy5⟩) (by assumption) ?_
  case hy5 => ((intro W hSw); (try dsimp only at hSw); go_simp; try (with_reducible rfl))
  simp only [List.set_cons_zero, List.set_cons_succ]
  refine take_put (i := 0) (oi := _) (v := _) 45 rfl rfl (by kernel_rfl) (by kernel_rfl) (by kernel_rfl) (fun _ _ _ h => h) (yieldsIf_load_mid (by rfl) _ _ rfl KB 0 rfl kcs _ (fun _ h => Blk.range h.kb) hu rfl hsi1) (by assumption) ?_
  simp only [List.set_cons_zero, List.set_cons_succ]
  refine take_put (i := 4) (oi := _) (v := _) 49 rfl rfl (by kernel_rfl) (by kernel_rfl) (by kernel_rfl) (fun _ _ _ h => h) (yieldsIf_load_mid (by rfl) _ _ rfl OB 0 rfl ocs _ (fun _ h => Blk.range h.ob) hu rfl hsi2) (by assumption) ?_
  simp only [List.set_cons_zero, List.set_cons_succ]
  refine wpAnyH_ready (rs := [2, 6]) (by kernel_rfl) (by simp) ?_
  refine AllReadyH.cons (o := _) rfl (fun K hK => ?_) (AllReadyH.cons (o := _) rfl (fun K hK => ?_) (AllReadyH.nil))
  · refine step_lit1 rfl 47 rfl 44 24 (.tmp 46) rfl i0 _ _ Try.underlying44 hi0 hz0 hz1 rfl rfl rfl x1 hHeld.rd ?_
    intro u1 V0 ru1 hb
    refine hK.out _ _ (hHeld.on hb) (fun hHeld => ?_)
    clear hK K hb
    try simp only [List.setIfInBounds_toArray, List.set_cons_zero, List.set_cons_succ]
    refine wpAnyH_ready (rs := [3, 6]) (by kernel_rfl) (by simp) ?_
    refine AllReadyH.cons (o := _) rfl (fun K hK => ?_) (AllReadyH.cons (o := _) rfl (fun K hK => ?_) (AllReadyH.nil))
    · refine step_callD rfl 48 rfl 12 #[.tmp 45, .tmp 47] _ rfl (enters_of Try.func12 (by kernel_rfl) rfl) #[.agg kcs.toArray, u1] (by simp only [List.map_toArray, List.map_cons, List.map_nil]; rfl) _ _ (HT1.out _ u1 ru1) ?_
      intro V1 hb
      have ru1 := Rs.below ru1 hb
      refine hK.out _ _ (hHeld.on hb) (fun hHeld => ?_)
      clear hK K hb
      try simp only [List.setIfInBounds_toArray, List.set_cons_zero, List.set_cons_succ]
      refine wpAnyH_ready (rs := [6]) (by kernel_rfl) (by simp) ?_
      refine AllReadyH.cons (o := _) rfl (fun K hK => ?_) (AllReadyH.nil)
      refine step_lit1 rfl 51 rfl 44 24 (.tmp 50) rfl i0 _ _ Try.underlying44 hi0 hz0 hz1 rfl rfl rfl x1 hHeld.rd ?_
      intro u2 V2 ru2 hb
      have ru1 := Rs.below ru1 hb
      refine hK.out _ _ (hHeld.on hb) (fun hHeld => ?_)
      clear hK K hb
      try simp only [List.setIfInBounds_toArray, List.set_cons_zero, List.set_cons_succ]
      refine wpAnyH_ready (rs := [7]) (by kernel_rfl) (by simp) ?_
      refine AllReadyH.cons (o := _) rfl (fun K hK => ?_) (AllReadyH.nil)
      refine step_callD rfl 52 rfl 12 #[.tmp 49, .tmp 51] _ rfl (enters_of Try.func12 (by kernel_rfl) rfl) #[.agg ocs.toArray, u2] (by simp only [List.map_toArray, List.map_cons, List.map_nil]; rfl) _ _ (HT2.out _ u2 ru2) ?_
      intro V3 hb
      have ru1 := Rs.below ru1 hb
      have ru2 := Rs.below ru2 hb
      refine hK.out _ _ (hHeld.on hb) (fun hHeld => ?_)
      clear hK K hb
      try simp only [List.setIfInBounds_toArray, List.set_cons_zero, List.set_cons_succ]
      refine take_put (i := 8) (oi := _) (v := ?_) 53 rfl rfl (by kernel_rfl) (by kernel_rfl) (by kernel_rfl) (fun _ _ _ h => h) (Or.inl ⟨by rfl, ?hy8⟩) (by assumption) ?_
      case hy8 => ((intro W hSw); (try dsimp only at hSw); go_simp; try (with_reducible rfl))
      simp only [List.set_cons_zero, List.set_cons_succ]
      refine take_put (i := 9) (oi := _) (v := ?_) 54 rfl rfl (by kernel_rfl) (by kernel_rfl) (by kernel_rfl) (fun _ _ _ h => h) (Or.inl ⟨by rfl, ?hy9⟩) (by assumption) ?_
      case hy9 => ((intro W hSw); (try dsimp only at hSw); go_simp; try (with_reducible rfl))
      simp only [List.set_cons_zero, List.set_cons_succ]
      refine wpAnyH_ready (rs := [10]) (by kernel_rfl) (by simp) ?_
      refine AllReadyH.cons (o := _) rfl (fun K hK => ?_) AllReadyH.nil
      go_simp
      refine (HA.out _ hHeld).mono ?_
      rintro e VA ⟨rfl, hA⟩
      refine hK.out _ _ hA (fun hHeld => ?_)
      clear hK K
      try simp only [Act.put, List.setIfInBounds_toArray, List.set_cons_zero, List.set_cons_succ]
      refine take_put (i := 11) (oi := _) (v := ?_) 56 rfl rfl (by kernel_rfl) (by kernel_rfl) (by kernel_rfl) (fun _ _ _ h => h) (Or.inl ⟨by rfl, ?hy11⟩) (by assumption) ?_
      case hy11 => ((intro W hSw); (try dsimp only at hSw); go_simp; try (with_reducible rfl))
      simp only [List.set_cons_zero, List.set_cons_succ]
      refine take_put (i := 12) (oi := _) (v := ?_) 6 rfl rfl (by kernel_rfl) (by kernel_rfl) (by kernel_rfl) (fun _ _ _ h => h) (Or.inl ⟨by rfl, ?hy12⟩) (by assumption) ?_
      case hy12 => ((intro W hSw); (try dsimp only at hSw); go_simp; try (with_reducible rfl))
      simp only [List.set_cons_zero, List.set_cons_succ]
      refine wpAnyH_done (by kernel_rfl) ?_ _
      go_wp2_with (fail)
      go_ret
      exact ⟨rfl, hHeld.low⟩
    · refine step_lit1 rfl 51 rfl 44 24 (.tmp 50) rfl i0 _ _ Try.underlying44 hi0 hz0 hz1 rfl rfl rfl x1 hHeld.rd ?_
      intro u2 V1 ru2 hb
      have ru1 := Rs.below ru1 hb
      refine hK.out _ _ (hHeld.on hb) (fun hHeld => ?_)
      clear hK K hb
      try simp only [List.setIfInBounds_toArray, List.set_cons_zero, List.set_cons_succ]
      refine wpAnyH_ready (rs := [3]) (by kernel_rfl) (by simp) ?_
      refine AllReadyH.cons (o := _) rfl (fun K hK => ?_) (AllReadyH.nil)
      refine step_callD rfl 48 rfl 12 #[.tmp 45, .tmp 47] _ rfl (enters_of Try.func12 (by kernel_rfl) rfl) #[.agg kcs.toArray, u1] (by simp only [List.map_toArray, List.map_cons, List.map_nil]; rfl) _ _ (HT1.out _ u1 ru1) ?_
      intro V2 hb
      have ru1 := Rs.below ru1 hb
      have ru2 := Rs.below ru2 hb
      refine hK.out _ _ (hHeld.on hb) (fun hHeld => ?_)
      clear hK K hb
      try simp only [List.setIfInBounds_toArray, List.set_cons_zero, List.set_cons_succ]
      refine wpAnyH_ready (rs := [7]) (by kernel_rfl) (by simp) ?_
      refine AllReadyH.cons (o := _) rfl (fun K hK => ?_) (AllReadyH.nil)
      refine step_callD rfl 52 rfl 12 #[.tmp 49, .tmp 51] _ rfl (enters_of Try.func12 (by kernel_rfl) rfl) #[.agg ocs.toArray, u2] (by simp only [List.map_toArray, List.map_cons, List.map_nil]; rfl) _ _ (HT2.out _ u2 ru2) ?_
      intro V3 hb
      have ru1 := Rs.below ru1 hb
      have ru2 := Rs.below ru2 hb
      refine hK.out _ _ (hHeld.on hb) (fun hHeld => ?_)
      clear hK K hb
      try simp only [List.setIfInBounds_toArray, List.set_cons_zero, List.set_cons_succ]
      refine take_put (i := 8) (oi := _) (v := ?_) 53 rfl rfl (by kernel_rfl) (by kernel_rfl) (by kernel_rfl) (fun _ _ _ h => h) (Or.inl ⟨by rfl, ?hy8⟩) (by assumption) ?_
      case hy8 => ((intro W hSw); (try dsimp only at hSw); go_simp; try (with_reducible rfl))
      simp only [List.set_cons_zero, List.set_cons_succ]
      refine take_put (i := 9) (oi := _) (v := ?_) 54 rfl rfl (by kernel_rfl) (by kernel_rfl) (by kernel_rfl) (fun _ _ _ h => h) (Or.inl ⟨by rfl, ?hy9⟩) (by assumption) ?_
      case hy9 => ((intro W hSw); (try dsimp only at hSw); go_simp; try (with_reducible rfl))
      simp only [List.set_cons_zero, List.set_cons_succ]
      refine wpAnyH_ready (rs := [10]) (by kernel_rfl) (by simp) ?_
      refine AllReadyH.cons (o := _) rfl (fun K hK => ?_) AllReadyH.nil
      go_simp
      refine (HA.out _ hHeld).mono ?_
      rintro e VA ⟨rfl, hA⟩
      refine hK.out _ _ hA (fun hHeld => ?_)
      clear hK K
      try simp only [Act.put, List.setIfInBounds_toArray, List.set_cons_zero, List.set_cons_succ]
      refine take_put (i := 11) (oi := _) (v := ?_) 56 rfl rfl (by kernel_rfl) (by kernel_rfl) (by kernel_rfl) (fun _ _ _ h => h) (Or.inl ⟨by rfl, ?hy11⟩) (by assumption) ?_
      case hy11 => ((intro W hSw); (try dsimp only at hSw); go_simp; try (with_reducible rfl))
      simp only [List.set_cons_zero, List.set_cons_succ]
      refine take_put (i := 12) (oi := _) (v := ?_) 6 rfl rfl (by kernel_rfl) (by kernel_rfl) (by kernel_rfl) (fun _ _ _ h => h) (Or.inl ⟨by rfl, ?hy12⟩) (by assumption) ?_
      case hy12 => ((intro W hSw); (try dsimp only at hSw); go_simp; try (with_reducible rfl))
      simp only [List.set_cons_zero, List.set_cons_succ]
      refine wpAnyH_done (by kernel_rfl) ?_ _
      go_wp2_with (fail)
      go_ret
      exact ⟨rfl, hHeld.low⟩
  · refine step_lit1 rfl 51 rfl 44 24 (.tmp 50) rfl i0 _ _ Try.underlying44 hi0 hz0 hz1 rfl rfl rfl x1 hHeld.rd ?_
    intro u2 V0 ru2 hb
    refine hK.out _ _ (hHeld.on hb) (fun hHeld => ?_)
    clear hK K hb
    try simp only [List.setIfInBounds_toArray, List.set_cons_zero, List.set_cons_succ]
    refine wpAnyH_ready (rs := [2]) (by kernel_rfl) (by simp) ?_
    refine AllReadyH.cons (o := _) rfl (fun K hK => ?_) (AllReadyH.nil)
    refine step_lit1 rfl 47 rfl 44 24 (.tmp 46) rfl i0 _ _ Try.underlying44 hi0 hz0 hz1 rfl rfl rfl x1 hHeld.rd ?_
    intro u1 V1 ru1 hb
    have ru2 := Rs.below ru2 hb
    refine hK.out _ _ (hHeld.on hb) (fun hHeld => ?_)
    clear hK K hb
    try simp only [List.setIfInBounds_toArray, List.set_cons_zero, List.set_cons_succ]
    refine wpAnyH_ready (rs := [3]) (by kernel_rfl) (by simp) ?_
    refine AllReadyH.cons (o := _) rfl (fun K hK => ?_) (AllReadyH.nil)
    refine step_callD rfl 48 rfl 12 #[.tmp 45, .tmp 47] _ rfl (enters_of Try.func12 (by kernel_rfl) rfl) #[.agg kcs.toArray, u1] (by simp only [List.map_toArray, List.map_cons, List.map_nil]; rfl) _ _ (HT1.out _ u1 ru1) ?_
    intro V2 hb
    have ru1 := Rs.below ru1 hb
    have ru2 := Rs.below ru2 hb
    refine hK.out _ _ (hHeld.on hb) (fun hHeld => ?_)
    clear hK K hb
    try simp only [List.setIfInBounds_toArray, List.set_cons_zero, List.set_cons_succ]
    refine wpAnyH_ready (rs := [7]) (by kernel_rfl) (by simp) ?_
    refine AllReadyH.cons (o := _) rfl (fun K hK => ?_) (AllReadyH.nil)
    refine step_callD rfl 52 rfl 12 #[.tmp 49, .tmp 51] _ rfl (enters_of Try.func12 (by kernel_rfl) rfl) #[.agg ocs.toArray, u2] (by simp only [List.map_toArray, List.map_cons, List.map_nil]; rfl) _ _ (HT2.out _ u2 ru2) ?_
    intro V3 hb
    have ru1 := Rs.below ru1 hb
    have ru2 := Rs.below ru2 hb
    refine hK.out _ _ (hHeld.on hb) (fun hHeld => ?_)
    clear hK K hb
    try simp only [List.setIfInBounds_toArray, List.set_cons_zero, List.set_cons_succ]
    refine take_put (i := 8) (oi := _) (v := ?_) 53 rfl rfl (by kernel_rfl) (by kernel_rfl) (by kernel_rfl) (fun _ _ _ h => h) (Or.inl ⟨by rfl, ?hy8⟩) (by assumption) ?_
    case hy8 => ((intro W hSw); (try dsimp only at hSw); go_simp; try (with_reducible rfl))
    simp only [List.set_cons_zero, List.set_cons_succ]
    refine take_put (i := 9) (oi := _) (v := ?_) 54 rfl rfl (by kernel_rfl) (by kernel_rfl) (by kernel_rfl) (fun _ _ _ h => h) (Or.inl ⟨by rfl, ?hy9⟩) (by assumption) ?_
    case hy9 => ((intro W hSw); (try dsimp only at hSw); go_simp; try (with_reducible rfl))
    simp only [List.set_cons_zero, List.set_cons_succ]
    refine wpAnyH_ready (rs := [10]) (by kernel_rfl) (by simp) ?_
    refine AllReadyH.cons (o := _) rfl (fun K hK => ?_) AllReadyH.nil
    go_simp
    refine (HA.out _ hHeld).mono ?_
    rintro e VA ⟨rfl, hA⟩
    refine hK.out _ _ hA (fun hHeld => ?_)
    clear hK K
    try simp only [Act.put, List.setIfInBounds_toArray, List.set_cons_zero, List.set_cons_succ]
    refine take_put (i := 11) (oi := _) (v := ?_) 56 rfl rfl (by kernel_rfl) (by kernel_rfl) (by kernel_rfl) (fun _ _ _ h => h) (Or.inl ⟨by rfl, ?hy11⟩) (by assumption) ?_
    case hy11 => ((intro W hSw); (try dsimp only at hSw); go_simp; try (with_reducible rfl))
    simp only [List.set_cons_zero, List.set_cons_succ]
    refine take_put (i := 12) (oi := _) (v := ?_) 6 rfl rfl (by kernel_rfl) (by kernel_rfl) (by kernel_rfl) (fun _ _ _ h => h) (Or.inl ⟨by rfl, ?hy12⟩) (by assumption) ?_
    case hy12 => ((intro W hSw); (try dsimp only at hSw); go_simp; try (with_reducible rfl))
    simp only [List.set_cons_zero, List.set_cons_succ]
    refine wpAnyH_done (by kernel_rfl) ?_ _
    go_wp2_with (fail)
    go_ret
    exact ⟨rfl, hHeld.low⟩
theorem own : ownKnob Try.prog.godebug = none := by kernel_rfl
theorem laidOut : laidOutB Try.prog = true := by kernel_rfl

set_option maxRecDepth 100000 in
theorem lifted (os : Os) (started : os.Started) (H : Type) (enc : TypeId × Value → H) :
    ReturnsInHanded {} Try.checked os 6 .any (Rows.polyClampsSpec.pre6 enc Try.prog Try.f6 Rows.polyClampsRow.domain false) (Rows.polyClampsSpec.post enc Try.prog Try.f6 false true false false) := by
  refine returnsInHanded_of_change (C := Try.checked) own started (by kernel_rfl) Try.func6
    (ChangeSpec.witness6 (enc := enc) (C := Try.checked) false ⟨#[], #[.agg (List.replicate 32 (Value.int .u8 0)).toArray, .slice none 0 0, .agg (List.replicate 16 (Value.int .u8 0)).toArray], []⟩ 8 (by kernel_rfl) (by kernel_rfl) (by kernel_rfl) (by kernel_rfl)) ?_
  intro W base args ds gs before hval0 hW hcnd _
  have hval : ∀ (j : Nat) t v, Try.f6.params[j]? = some t → args[j]? = some v → Value.okWide Try.prog W .any base t v := hval0
  have hW' := hW
  obtain ⟨p, q, hA0, hV, rfl, hfz, hnd⟩ := hW
  have hA : DataW.TrodAll enc Try.prog W 0 (fun _ => true) true Try.f6.params.toList args.toList ds p := hA0
  rw [Try.params6] at hA hval
  obtain ⟨v0, vs0, dd0, ds0, p0, q0, hargs, rfl, rfl, h0, r0⟩ := trodAll_cons hA
  obtain ⟨v1, vs1, dd1, ds1, p1, q1, rfl, rfl, rfl, h1, r1⟩ := trodAll_cons r0
  obtain ⟨v2, vs2, dd2, ds2, p2, q2, rfl, rfl, rfl, h2, r2⟩ := trodAll_cons r1
  obtain ⟨rfl, rfl, rfl⟩ := trodAll_nil r2
  obtain rfl : args = #[v0, v1, v2] := by cases args; simp_all
  obtain ⟨rfl, rfl⟩ := trodVars_none hV
  have g0 := h0
  have lt0 : ∀ x ∈ p0, x.block < W.heap.size := by obtain ⟨m, hm⟩ := g0; exact DataW.trod_lt m _ _ _ hm
  obtain ⟨x0, rfl, l0⟩ := bytes_of_arr Try.underlying23 Try.underlying5 (by kernel_rfl) (by kernel_rfl) (hval 0 23 v0 rfl rfl) h0
  obtain ⟨A1, n1, c1, rfl⟩ := okWide_slice Try.underlying24 (hval 1 24 v1 rfl rfl)
  have g1 := h1
  have lt1 : ∀ x ∈ p1, x.block < W.heap.size := by obtain ⟨m, hm⟩ := g1; exact DataW.trod_lt m _ _ _ hm
  obtain ⟨x1, k1⟩ : ∃ xs, Rd W (.slice A1 n1 c1) xs := by
    obtain ⟨fuel, hf⟩ := h1
    rcases open_ints Try.underlying24 Try.underlying5 (by kernel_rfl) hf with ⟨hcs, _⟩ | ⟨x, l, c, zs, hcs, _, hl, hm, hz, _, hcell, hwz⟩
    · simp [Value.cells] at hcs
      obtain ⟨rfl, rfl, rfl⟩ := hcs
      exact ⟨[], Rd.nil W⟩
    · simp [Value.cells] at hcs
      obtain ⟨rfl, rfl, rfl⟩ := hcs
      exact rd_of_row hl hm (by simpa using hz) hcell hwz
  have g2 := h2
  have lt2 : ∀ x ∈ p2, x.block < W.heap.size := by obtain ⟨m, hm⟩ := g2; exact DataW.trod_lt m _ _ _ hm
  obtain ⟨x2, rfl, l2⟩ := bytes_of_arr Try.underlying28 Try.underlying5 (by kernel_rfl) (by kernel_rfl) (hval 2 28 v2 rfl rfl) h2
  clear hA0 hval0
  refine (walk x0 _ x1 x2 W l0 k1 l2).mono fun e W' ⟨he, bel⟩ => ?_
  subst he
  exact ⟨_, rfl, _, _, _, [], _, [], hW', trodAll_mk1 (shut_bool Try.underlying4 _), (trodAll_cons_mk (Below.trod laidOut (by kernel_rfl) (of_decide_eq_true (by kernel_rfl)) g0 bel lt0) (trodAll_cons_mk (Below.trod laidOut (by kernel_rfl) (of_decide_eq_true (by kernel_rfl)) g1 bel lt1) (trodAll_cons_mk (Below.trod laidOut (by kernel_rfl) (of_decide_eq_true (by kernel_rfl)) g2 bel lt2) trodAll_mk0))), rfl, bel.frame _, fun h => by cases h⟩

theorem over : Rows.polyClampsRow.holds Try.pinned (OpenSpec.ofChange Rows.polyClampsSpec) :=
  OpenClaim.holds_of_wide 6 Try.f6 rfl rfl rfl rfl rfl rfl rfl ⟨rfl, rfl, rfl, rfl, rfl⟩ rfl rfl rfl rfl rfl (by kernel_rfl) Try.func6 (by kernel_rfl)
    (of_decide_eq_true (by kernel_rfl)) (by unfold Func.isWrapper; first | (rw [if_pos (by decide +kernel)]; kernel_rfl) | (rw [if_neg (by decide +kernel)]; exact ⟨rfl, rfl⟩))
    (fun os started H enc _ => lifted os started H enc)

theorem proved : Rows.PolyClampsSaid := over
#print axioms proved
end Go.Proofs.Ytlcpplnajaldgaa.polyClamps
