/- What is proved: 'ChachaWraps' (law 4) returns true whatever comes in: behind the block of the number 2^32 - 1 comes that of 0; the arguments read afterwards as before.
   Conditions: none of its own. The table of the quarters reads as the program's text lays it (the card ties it; the translation is a pruned copy of the project). -/
import Derived.Test.YtnpojhmcgohdlaaDoorCards
import Derived.Test.YtnpojhmcgohdlaaDoorTie
import Derived.Test.YtnpojhmcgohdlaaDoorLaidQ
import Derived.Test.YtnpojhmcgohdlaaDoorLoadG
import Derived.Test.YtnpojhmcgohdlaaDoorCAwake
import Derived.Test.YtnpojhmcgohdlaaDoorCXor
import Derived.Test.YtnpojhmcgohdlaaDoorStepM
import Derived.Test.YtnpojhmcgohdlaaDoorLent
import Derived.Test.YtnpojhmcgohdlaaDoorArrIn
import Derived.Deep.RegionHeld3
import Derived.SevenTiedAt
namespace Go.Proofs.YtnpojhmcgohdlaaDoor.chachaWraps
open Go.ChangeShapes Go.WideShapes Go.ChangeAt Go.ChangeMaps Go.RowKit

/-- What the walk carries along. -/
structure TW (w : World) (KB NB : Nat) (kcs ncs : List Value) (v2 : Value) (x2 : List UInt8) (vx : Value) (xs : List UInt8) (V : World) : Prop where
  kb : Blk V KB 23 kcs
  nb : Blk V NB 26 ncs
  rv : Rd V v2 x2
  rx : Rd V vx xs
  qs : Qs V
  below : Below w.heap.size w V
section
variable {w : World} {KB NB : Nat} {kcs ncs : List Value} {v2 : Value} {x2 : List UInt8} {vx : Value} {xs : List UInt8} {V V' : World}
theorem TW.on (h : TW w KB NB kcs ncs v2 x2 vx xs V) (hb : Below V.heap.size V V') : TW w KB NB kcs ncs v2 x2 vx xs V' :=
  ⟨h.kb.below hb h.kb.lt, h.nb.below hb h.nb.lt, h.rv.below hb, h.rx.below hb, h.qs.below hb, h.below.trans (hb.mono h.below.size)⟩
theorem TW.drewN (h : TW w KB NB kcs ncs v2 x2 vx xs V) (n : Nat) : TW w KB NB kcs ncs v2 x2 vx xs (V.drewN n) := h.on (below_drewN (Below.refl _ _) n)
theorem TW.drew (h : TW w KB NB kcs ncs v2 x2 vx xs V) : TW w KB NB kcs ncs v2 x2 vx xs V.drew := h.on (Below.refl _ _).drew
theorem TW.any (h : TW w KB NB kcs ncs v2 x2 vx xs V) : TW w KB NB kcs ncs v2 x2 (.slice none 0 0) [] V := ⟨h.kb, h.nb, h.rv, Rd.nil V, h.qs, h.below⟩
theorem Blk.range {V : World} {B : Nat} {t : TypeId} {cs : List Value} (h : Blk V B t cs) : V.rangeAt B 0 cs := fun j v hv => by
  rw [Nat.zero_add, h.cell j]
  exact hv
end

set_option maxRecDepth 100000 in
set_option maxHeartbeats 4000000 in
theorem walk (x0 : List UInt8) (x1 : List UInt8) (v2 : Value) (x2 : List UInt8) (w : World) (l0 : x0.length = 32) (l1 : x1.length = 12) (k2 : Rd w v2 x2) (hk : Qs w) :
    Calls Tryd.prog 6 #[.agg (x0.map bv).toArray, .agg (x1.map bv).toArray, v2] w fun e w' => e = .returned (.bool true) ∧ Below w.heap.size w w' := by
  obtain ⟨i0, hi, hz0, hz1, hz2⟩ := info_parts info_u8
  have HI32 : Hid ((Tryd.prog.info? 23).map (·.size) = some 32) := by show _ = _; kernel_rfl
  have HI12 : Hid ((Tryd.prog.info? 26).map (·.size) = some 12) := by show _ = _; kernel_rfl
  obtain ⟨kcs, hkc⟩ : ∃ cs, cs = x0.map bv := ⟨_, rfl⟩
  obtain ⟨ncs, hnc⟩ : ∃ cs, cs = x1.map bv := ⟨_, rfl⟩
  rw [← hkc, ← hnc]
  have HKM : Hid (kcs.length = 32) := by show _ = _; rw [hkc, List.length_map, l0]
  have HNM : Hid (ncs.length = 12) := by show _ = _; rw [hnc, List.length_map, l1]
  have HKC := Lib.hid hkc
  have HNC := Lib.hid hnc
  have L0 := Lib.hid l0
  have L1 := Lib.hid l1
  obtain ⟨W1, hW1⟩ : ∃ W : World, W = (w.alloc (.cells kcs.toArray 23)).alloc (.cells ncs.toArray 26) := ⟨_, rfl⟩
  have D1 : Hid (Below w.heap.size w W1) := Lib.hid (by rw [hW1]; exact ((Below.refl _ _).alloc (Nat.le_refl _) _).alloc (by simp) _)
  have K1 : Hid (Blk W1 w.heap.size 23 kcs) := Lib.hid (by rw [hW1]; exact (Blk.made w _ _).alloc _)
  have N1 : Hid (Blk W1 (w.heap.size + 1) 26 ncs) := Lib.hid (by
    have h := Blk.made (w.alloc (.cells kcs.toArray 23)) 26 ncs
    rw [World.size_alloc] at h
    rw [hW1]
    exact h)
  have Q1 := Lib.hid (hk.below D1.out)
  have HX : Hid (∀ W v bs m, m < 4294967296 → Rd W v bs → bs.length ≤ 1000000 → Qs W → Calls Tryd.prog 12 #[.agg kcs.toArray, .agg ncs.toArray, .int .u32 ((m : Nat) : Int), v] W (Own W 5 (chaXor x0 x1 m bs))) := Lib.hid fun W v bs m hm hv hl hq => by
    rw [HKC.out, HNC.out]
    exact cxor_any v x0 x1 bs m W L0.out L1.out hm hv hl hq
  have HA := Lib.hid fun W hW => chaAwake_any W hW
  have R1 := Lib.hid (k2.below D1.out)
  obtain ⟨A, c, rfl, hc1, hc2, _⟩ := k2.form
  clear hkc hnc l0 l1 hk k2
  by_cases hl : x2.length ≤ 200
  · have lI : (x2.length : Int) ≤ 200 := by omega
    have HLN : Hid (x2.length ≤ 200) := Lib.hid hl
    obtain ⟨KB, hKB⟩ : ∃ B, B = w.heap.size := ⟨_, rfl⟩
    obtain ⟨NB, hNB⟩ : ∃ B, B = w.heap.size + 1 := ⟨_, rfl⟩
    have hS1 : TW w KB NB kcs ncs (.slice A x2.length c) x2 (.slice none 0 0) [] W1 := by
      rw [hKB, hNB]
      exact ⟨K1.out, N1.out, R1.out, Rd.nil _, Q1.out, D1.out⟩
    have HS1 := Lib.hid hS1
    have hu1 := Tryd.underlying23
    have hu2 := Tryd.underlying26
    have hsi1 : (Tryd.prog.info? 23).map (·.size) = some kcs.length := by rw [HKM.out]; exact HI32.out
    have hsi2 : (Tryd.prog.info? 26).map (·.size) = some ncs.length := by rw [HNM.out]; exact HI12.out
    have B2 : Hid (i0.bytes * 64 ≤ 281474976710656) := Lib.hid (by rw [hz2]; omega)
    have B3 : Hid (64 ≤ maxLen) := Lib.hid (by unfold maxLen; omega)
    have ZB : Hid ((List.replicate 64 (0 : UInt8)).map bv = List.replicate 64 (Value.int .u8 0)) := Lib.hid (by simp [bv])
    have LB : Hid (64 + x2.length ≤ 140737488355328) := Lib.hid (by omega)
    obtain ⟨res, hres⟩ := ex_eq1 (chaXor x0 x1 4294967295 (List.replicate 64 0 ++ x2))
    have HRES := Lib.hid hres
    have LR : Hid (res.length = 64 + x2.length) := by show _ = _; rw [hres, chaXor_length, List.length_append, List.length_replicate]
    have DR : Hid (res.drop 64 = chaXor x0 x1 0 x2) := by
      show _ = _
      rw [hres, chaXor_parts x0 x1 4294967295 _ (by rw [List.length_append, List.length_replicate]; omega)]
      have e1 : (List.replicate 64 (0 : UInt8) ++ x2).take 64 = List.replicate 64 0 := by rw [List.take_append_of_le_length (by simp), List.take_of_length_le (by simp)]
      have e2 : (List.replicate 64 (0 : UInt8) ++ x2).drop 64 = x2 := by rw [List.drop_append_of_le_length (by simp), List.drop_of_length_le (by simp), List.nil_append]
      rw [e1, e2, List.drop_append_of_le_length (by rw [chaXor_length]; simp), List.drop_of_length_le (by rw [chaXor_length]; simp), List.nil_append]
    have C3 : Hid (∀ V v5, TW w KB NB kcs ncs (.slice A x2.length c) x2 (.slice none 0 0) [] V → Rd V v5 (List.replicate 64 0 ++ x2) → Calls Tryd.prog 12 #[.agg kcs.toArray, .agg ncs.toArray, .int .u32 4294967295, v5] V fun e V' => ∃ u, e = .returned u ∧ TW w KB NB kcs ncs (.slice A x2.length c) x2 u res V') := Lib.hid fun V v5 hV hr => (HX.out V v5 _ 4294967295 (by omega) hr (by rw [List.length_append, List.length_replicate]; omega) hV.qs).mono fun e V' ⟨u, he, ho, hb⟩ => by
      have k := hV.on hb
      exact ⟨u, he, k.kb, k.nb, k.rv, by rw [HRES.out]; exact Rd.of_own ho, k.qs, k.below⟩
    have E1 := Lib.hid hKB
    have E2 := Lib.hid hNB
    have HW1 := Lib.hid hW1
    clear hS1 hres hKB hNB hW1 hl
    go_enter Tryd.func6, Tryd.ntmps6
    go_wp2_with (first
               | refine Go.Great.wpList_boxTo rfl _ _ rfl _ rfl w.heap.size rfl (kcs.toArray) rfl ?_
               | refine Go.Great.wpList_boxTo rfl _ _ rfl _ rfl (w.heap.size + 1) (by simp) (ncs.toArray) rfl ?_)
    rw [← E2.out, ← E1.out, ← HW1.out]
    have hS0 := HS1.out
    refine wp_region_held_drew (S := (TW w KB NB kcs ncs (.slice A x2.length c) x2 (.slice none 0 0) [])) (by kernel_rfl) ?_ (fun hHeld => ?_)
    · (first | assumption | exact TW.drew (by assumption) | exact sv4 | exact sv5 | exact TW.drew sv4 | exact TW.drew sv5 | exact TW.any (by assumption))
    refine take_put (i := 0) (oi := _) (v := _) 12 rfl rfl (by kernel_rfl) (by kernel_rfl) (by kernel_rfl) (fun _ _ _ h => h) (yieldsIf_load_mid (by rfl) _ _ rfl KB 0 rfl kcs _ (fun _ h => Blk.range h.kb) hu1 rfl hsi1) (by assumption) ?_
    simp only [List.set_cons_zero, List.set_cons_succ]
    refine take_put (i := 1) (oi := _) (v := _) 13 rfl rfl (by kernel_rfl) (by kernel_rfl) (by kernel_rfl) (fun _ _ _ h => h) (yieldsIf_load_mid (by rfl) _ _ rfl NB 0 rfl ncs _ (fun _ h => Blk.range h.nb) hu2 rfl hsi2) (by assumption) ?_
    simp only [List.set_cons_zero, List.set_cons_succ]
    refine take_put (i := 3) (oi := _) (v := ?_) 15 rfl rfl (by kernel_rfl) (by kernel_rfl) (by kernel_rfl) (fun _ _ _ h => h) (Or.inl ⟨by rfl, ?hy3⟩) (by assumption) ?_
    case hy3 => ((intro W hSw); (try dsimp only at hSw); go_simp; try (with_reducible rfl))
    simp only [List.set_cons_zero, List.set_cons_succ]
    refine wpAnyH_ready (rs := [2]) (by kernel_rfl) (by simp) ?_
    refine AllReadyH.cons (o := _) rfl (fun K hK => ?_) AllReadyH.nil
    refine step_make_full _ (by rfl) _ _ _ (by rfl) W1.heap.size 5 i0 _ 1 Tryd.underlying30 hi hz0 hz1 _ _ _ _ 64 (by rfl) (by rfl) (by rfl) (by rfl) B2.out B3.out (Nat.le_refl _) ?_
    intro w4 own4 g4
    have sv4 := TW.on (TW.drew hS0) ((Below.refl _ _).grown g4 (Nat.le_refl _) (fun k h => by cases h))
    rw [made_one rfl, ← ZB.out] at own4
    refine hK.out _ _ ?_ (fun hHeld => ?_)
    · (first | assumption | exact TW.drew (by assumption) | exact sv4 | exact sv5 | exact TW.drew sv4 | exact TW.drew sv5 | exact TW.any (by assumption))
    clear hK K
    try simp only [Act.put, List.setIfInBounds_toArray, List.set_cons_zero, List.set_cons_succ]
    refine wpAnyH_ready (rs := [4]) (by kernel_rfl) (by simp) ?_
    refine AllReadyH.cons (o := _) rfl (fun K hK => ?_) AllReadyH.nil
    refine step_append_rd0 _ (by rfl) _ _ _ (by rfl) W1.heap.size 5 i0 _ Tryd.underlying30 hi hz0 hz1 hz2 rfl _ 64 _ (by rfl) (by first | exact own4 | exact World.ownsRow.drew own4) _ x2 (by rfl) (by first | exact sv4.rv | exact sv4.rv.drew) LB.out (Nat.le_trans (Nat.le_refl _) g4.size) ?_
    intro v5 w5 own5 g5
    have sv5 := TW.on (TW.drew hS0) (((Below.refl W1.heap.size W1.drew).grown g4 (Nat.le_refl _) (fun k h => by cases h)).grown g5 g4.size (own_ge own4))
    have rd5 := Rd.of_own (xs := List.replicate 64 0 ++ x2) (by rw [List.map_append]; exact own5)
    refine hK.out _ _ ?_ (fun hHeld => ?_)
    · (first | assumption | exact TW.drew (by assumption) | exact sv4 | exact sv5 | exact TW.drew sv4 | exact TW.drew sv5 | exact TW.any (by assumption))
    clear hK K
    try simp only [Act.put, List.setIfInBounds_toArray, List.set_cons_zero, List.set_cons_succ]
    refine wpAnyH_ready (rs := [5]) (by kernel_rfl) (by simp) ?_
    refine AllReadyH.cons (o := _) rfl (fun K hK => ?_) AllReadyH.nil
    go_simp
    (with_reducible refine (C3.out _ _ ?_ ?_).mono ?_; (first | exact sv5 | exact TW.drew sv5); (first | exact rd5 | exact rd5.drew); rintro e r1 ⟨vx, rfl, sv6⟩)
    refine hK.out _ _ ?_ (fun hHeld => ?_)
    · (first | assumption | exact TW.any sv6 | exact TW.any (TW.drew sv6))
    clear hK K
    try simp only [Act.put, List.setIfInBounds_toArray, List.set_cons_zero, List.set_cons_succ]
    refine take_put (i := 6) (oi := _) (v := ?_) 7 rfl rfl (by kernel_rfl) (by kernel_rfl) (by kernel_rfl) (fun _ _ _ h => h) (Or.inl ⟨by rfl, ?hy6⟩) (by assumption) ?_
    case hy6 => ((intro W hSw); (try dsimp only at hSw); go_simp; try (with_reducible rfl))
    simp only [List.set_cons_zero, List.set_cons_succ]
    refine wpAnyH_done (by kernel_rfl) ?_ _
    go_wp2_with (fail)
    have H6 := Lib.hid sv6
    obtain ⟨Av, cv, rfl, hv1, hv2, _⟩ := H6.out.rx.form
    rw [LR.out] at H6 hv1 ⊢
    unfold maxLen at hv2
    obtain ⟨Ad, cd, Sd, rd⟩ := H6.out.rx.low (P := Tryd.prog) 30 5 i0 Tryd.underlying30 hi hz1 64 (by rw [LR.out]; omega)
    rw [LR.out, Nat.add_sub_cancel_left] at rd
    have S2 : ∀ W, (Instr.slice 30 (.slice Av (64 + x2.length) cv) (some (.int .i64 64)) none none).run Tryd.prog W = .ok (.slice Ad x2.length cd) W := fun W => by
      have h := Sd W
      rw [LR.out, Nat.add_sub_cancel_left] at h
      exact h
    rw [DR.out] at rd
    have hS4 : TW w KB NB kcs ncs (.slice A x2.length c) x2 (.slice Ad x2.length cd) (chaXor x0 x1 0 x2) _ := ⟨H6.out.kb, H6.out.nb, H6.out.rv, rd, H6.out.qs, H6.out.below⟩
    have wI : IntKind.i64.wrap (64 + (x2.length : Int)) = 64 + (x2.length : Int) := IntWalk.i64_in _ (by omega)
    have C4 : Hid (∀ V, TW w KB NB kcs ncs (.slice A x2.length c) x2 (.slice Ad x2.length cd) (chaXor x0 x1 0 x2) V → Calls Tryd.prog 12 #[.agg kcs.toArray, .agg ncs.toArray, .int .u32 0, .slice A x2.length c] V fun e V' => ∃ u, e = .returned u ∧ Rd V' u (chaXor x0 x1 0 x2) ∧ TW w KB NB kcs ncs (.slice A x2.length c) x2 (.slice Ad x2.length cd) (chaXor x0 x1 0 x2) V') := Lib.hid fun V hV => (HX.out V _ x2 0 (by omega) hV.rv (by have := HLN.out; omega) hV.qs).mono fun e V' ⟨u, he, ho, hb⟩ => ⟨u, he, Rd.of_own ho, hV.on hb⟩
    have C5 : Hid (∀ V u, TW w KB NB kcs ncs (.slice A x2.length c) x2 (.slice Ad x2.length cd) (chaXor x0 x1 0 x2) V → Rd V u (chaXor x0 x1 0 x2) → Calls Tryd.prog 8 #[.slice Ad x2.length cd, u] V fun e V' => e = .returned (.bool true) ∧ TW w KB NB kcs ncs (.slice A x2.length c) x2 (.slice Ad x2.length cd) (chaXor x0 x1 0 x2) V') := Lib.hid fun V u hV hr => (same_yes _ _ _ V hV.rx hr).mono fun e V' ⟨he, n, hn⟩ => ⟨he, hn ▸ hV.drewN n⟩
    have C6 : Hid (∀ V, TW w KB NB kcs ncs (.slice A x2.length c) x2 (.slice Ad x2.length cd) (chaXor x0 x1 0 x2) V → Calls Tryd.prog 10 #[] V fun e V' => e = .returned (.bool true) ∧ TW w KB NB kcs ncs (.slice A x2.length c) x2 (.slice Ad x2.length cd) (chaXor x0 x1 0 x2) V') := Lib.hid fun V hV => (HA.out V hV.qs).mono fun e V' ⟨he, hb⟩ => ⟨he, hV.on hb⟩
    clear hHeld sv6 hS0 rd Sd H6 hv1 own4 own5 g4 g5 sv4 sv5 rd5
    refine wp_region_held_drew (S := (TW w KB NB kcs ncs (.slice A x2.length c) x2 (.slice Ad x2.length cd) (chaXor x0 x1 0 x2))) (by kernel_rfl) ?_ (fun hHeld => ?_)
    · (first | assumption | exact TW.drew (by assumption))
    refine take_put (i := 0) (oi := _) (v := ?_) 18 rfl rfl (by kernel_rfl) (by kernel_rfl) (by kernel_rfl) (fun _ _ _ h => h) (Or.inl ⟨by rfl, ?hy0⟩) (by assumption) ?_
    case hy0 => ((intro W hSw); (try dsimp only at hSw); go_simp; try (with_reducible rfl))
    simp only [List.set_cons_zero, List.set_cons_succ]
    refine take_put (i := 1) (oi := _) (v := ?_) 19 rfl rfl (by kernel_rfl) (by kernel_rfl) (by kernel_rfl) (fun _ _ _ h => h) (Or.inl ⟨by rfl, ?hy1⟩) (by assumption) ?_
    case hy1 => ((intro W hSw); (try dsimp only at hSw); go_simp; try (with_reducible rfl))
    simp only [List.set_cons_zero, List.set_cons_succ]
    refine take_put (i := 2) (oi := _) (v := ?_) 20 rfl rfl (by kernel_rfl) (by kernel_rfl) (by kernel_rfl) (fun _ _ _ h => h) (Or.inl ⟨by rfl, ?hy2⟩) (by assumption) ?_
    case hy2 => ((intro W hSw); (try dsimp only at hSw); go_simp; try (with_reducible rfl))
    simp only [List.set_cons_zero, List.set_cons_succ]
    refine take_put (i := 3) (oi := _) (v := ?_) 21 rfl rfl (by kernel_rfl) (by kernel_rfl) (by kernel_rfl) (fun _ _ _ h => h) (Or.inl ⟨by rfl, ?hy3⟩) (by assumption) ?_
    case hy3 => ((intro W hSw); (try dsimp only at hSw); go_simp; try (with_reducible rfl))
    simp only [List.set_cons_zero, List.set_cons_succ]
    refine take_put (i := 4) (oi := _) (v := ?_) 22 rfl rfl (by kernel_rfl) (by kernel_rfl) (by kernel_rfl) (fun _ _ _ h => h) (Or.inl ⟨by rfl, ?hy4⟩) (by assumption) ?_
    case hy4 => ((intro W hSw); (try dsimp only at hSw); go_simp; try (with_reducible rfl))
    simp only [List.set_cons_zero, List.set_cons_succ]
    refine take_put (i := 5) (oi := _) (v := ?_) 23 rfl rfl (by kernel_rfl) (by kernel_rfl) (by kernel_rfl) (fun _ _ _ h => h) (Or.inl ⟨by rfl, ?hy5⟩) (by assumption) ?_
    case hy5 => ((intro W hSw); (try dsimp only at hSw); go_simp; try (with_reducible rfl))
    simp only [List.set_cons_zero, List.set_cons_succ]
    refine take_put (i := 6) (oi := _) (v := ?_) 24 rfl rfl (by kernel_rfl) (by kernel_rfl) (by kernel_rfl) (fun _ _ _ h => h) (Or.inl ⟨by rfl, ?hy6⟩) (by assumption) ?_
    case hy6 => ((intro W hSw); (try dsimp only at hSw); go_simp; try (with_reducible rfl))
    simp only [List.set_cons_zero, List.set_cons_succ]
    refine take_put (i := 7) (oi := _) (v := ?_) 25 rfl rfl (by kernel_rfl) (by kernel_rfl) (by kernel_rfl) (fun _ _ _ h => h) (Or.inl ⟨by rfl, ?hy7⟩) (by assumption) ?_
    case hy7 => ((intro W hSw); (try dsimp only at hSw); go_simp; try (with_reducible rfl))
    simp only [List.set_cons_zero, List.set_cons_succ]
    refine take_put (i := 8) (oi := _) (v := ?_) 26 rfl rfl (by kernel_rfl) (by kernel_rfl) (by kernel_rfl) (fun _ _ _ h => h) (Or.inl ⟨by rfl, ?hy8⟩) (by assumption) ?_
    case hy8 => ((intro W hSw); (try dsimp only at hSw); go_simp; try (with_reducible rfl))
    simp only [List.set_cons_zero, List.set_cons_succ]
    refine take_put (i := 9) (oi := _) (v := _) 27 rfl rfl (by kernel_rfl) (by kernel_rfl) (by kernel_rfl) (fun _ _ _ h => h) (yieldsIf_load_mid (by rfl) _ _ rfl KB 0 rfl kcs _ (fun _ h => Blk.range h.kb) hu1 rfl hsi1) (by assumption) ?_
    simp only [List.set_cons_zero, List.set_cons_succ]
    refine take_put (i := 10) (oi := _) (v := _) 28 rfl rfl (by kernel_rfl) (by kernel_rfl) (by kernel_rfl) (fun _ _ _ h => h) (yieldsIf_load_mid (by rfl) _ _ rfl NB 0 rfl ncs _ (fun _ h => Blk.range h.nb) hu2 rfl hsi2) (by assumption) ?_
    simp only [List.set_cons_zero, List.set_cons_succ]
    refine take_put (i := 11) (oi := _) (v := ?_) 29 rfl rfl (by kernel_rfl) (by kernel_rfl) (by kernel_rfl) (fun _ _ _ h => h) (Or.inl ⟨by rfl, ?hy11⟩) (by assumption) ?_
    case hy11 => ((intro W hSw); (try dsimp only at hSw); go_simp; try (with_reducible rfl))
    simp only [List.set_cons_zero, List.set_cons_succ]
    refine wpAnyH_ready (rs := [12]) (by kernel_rfl) (by simp) ?_
    refine AllReadyH.cons (o := _) rfl (fun K hK => ?_) AllReadyH.nil
    go_simp
    (with_reducible refine (C4.out _ ?_).mono ?_; (first | assumption | exact TW.drew (by assumption)); rintro e r2 ⟨u, rfl, ru, s2⟩)
    refine hK.out _ _ ?_ (fun hHeld => ?_)
    · (first | assumption | exact TW.drew (by assumption))
    clear hK K
    try simp only [Act.put, List.setIfInBounds_toArray, List.set_cons_zero, List.set_cons_succ]
    refine wpAnyH_ready (rs := [13]) (by kernel_rfl) (by simp) ?_
    refine AllReadyH.cons (o := _) rfl (fun K hK => ?_) AllReadyH.nil
    go_simp
    (with_reducible refine (C5.out _ u ?_ ?_).mono ?_; (first | assumption | exact TW.drew (by assumption)); (first | exact ru | exact ru.drew); rintro e r3 ⟨rfl, s3⟩)
    refine hK.out _ _ ?_ (fun hHeld => ?_)
    · (first | assumption | exact TW.drew (by assumption))
    clear hK K
    try simp only [Act.put, List.setIfInBounds_toArray, List.set_cons_zero, List.set_cons_succ]
    refine take_put (i := 14) (oi := _) (v := ?_) 32 rfl rfl (by kernel_rfl) (by kernel_rfl) (by kernel_rfl) (fun _ _ _ h => h) (Or.inl ⟨by rfl, ?hy14⟩) (by assumption) ?_
    case hy14 => ((intro W hSw); (try dsimp only at hSw); go_simp; try (with_reducible rfl))
    simp only [List.set_cons_zero, List.set_cons_succ]
    refine take_put (i := 15) (oi := _) (v := ?_) 33 rfl rfl (by kernel_rfl) (by kernel_rfl) (by kernel_rfl) (fun _ _ _ h => h) (Or.inl ⟨by rfl, ?hy15⟩) (by assumption) ?_
    case hy15 => ((intro W hSw); (try dsimp only at hSw); go_simp; try (with_reducible rfl))
    simp only [List.set_cons_zero, List.set_cons_succ]
    refine wpAnyH_ready (rs := [16]) (by kernel_rfl) (by simp) ?_
    refine AllReadyH.cons (o := _) rfl (fun K hK => ?_) AllReadyH.nil
    go_simp
    (with_reducible refine (C6.out _ ?_).mono ?_; (first | assumption | exact TW.drew (by assumption)); rintro e r4 ⟨rfl, s4⟩)
    refine hK.out _ _ ?_ (fun hHeld => ?_)
    · (first | assumption | exact TW.drew (by assumption))
    clear hK K
    try simp only [Act.put, List.setIfInBounds_toArray, List.set_cons_zero, List.set_cons_succ]
    refine take_put (i := 17) (oi := _) (v := ?_) 35 rfl rfl (by kernel_rfl) (by kernel_rfl) (by kernel_rfl) (fun _ _ _ h => h) (Or.inl ⟨by rfl, ?hy17⟩) (by assumption) ?_
    case hy17 => ((intro W hSw); (try dsimp only at hSw); go_simp; try (with_reducible rfl))
    simp only [List.set_cons_zero, List.set_cons_succ]
    refine take_put (i := 18) (oi := _) (v := ?_) 6 rfl rfl (by kernel_rfl) (by kernel_rfl) (by kernel_rfl) (fun _ _ _ h => h) (Or.inl ⟨by rfl, ?hy18⟩) (by assumption) ?_
    case hy18 => ((intro W hSw); (try dsimp only at hSw); go_simp; try (with_reducible rfl))
    simp only [List.set_cons_zero, List.set_cons_succ]
    refine wpAnyH_done (by kernel_rfl) ?_ _
    go_wp2_with (fail)
    go_ret
    exact ⟨rfl, hHeld.below⟩
  · have lI : (200 : Int) < (x2.length : Int) := by omega
    subst hW1
    clear hl
    go_enter Tryd.func6, Tryd.ntmps6
    go_wp2_with (first
                 | refine Go.Great.wpList_boxTo rfl _ _ rfl _ rfl w.heap.size rfl (kcs.toArray) rfl ?_
                 | refine Go.Great.wpList_boxTo rfl _ _ rfl _ rfl (w.heap.size + 1) (by simp) (ncs.toArray) rfl ?_)
    refine (HA.out _ Q1.out).mono ?_
    rintro e w2 ⟨rfl, hb2⟩
    have D2 := Lib.hid (D1.out.trans (hb2.mono D1.out.size))
    clear hb2
    go_wp2_with (fail)
    go_ret
    exact ⟨rfl, D2.out⟩

theorem own : ownKnob Tryd.prog.godebug = none := by kernel_rfl
theorem laidOut : laidOutB Tryd.prog = true := by kernel_rfl

set_option maxRecDepth 100000 in
theorem lifted (os : Os) (started : os.Started) (H : Type) (enc : TypeId × Value → H) :
    ReturnsInHanded {} Tryd.checked os 6 .any (fun w args => (Rows.chachaWrapsSpec.pre enc Tryd.prog Tryd.f6 Rows.chachaWrapsRow.domain false w args ∧ laidMetH Tryd.prog quartsLaid w) ∧ sizedMet enc Tryd.prog Tryd.f6 (OpenSpec.ofChange Rows.chachaWrapsSpec) false w args) (Rows.chachaWrapsSpec.post enc Tryd.prog Tryd.f6 false true false false) := by
  refine returnsInHanded_of_change_and (C := Tryd.checked) (X := fun w _ => laidMetH Tryd.prog quartsLaid w) (fun _ _ _ hh h => h.of_heap hh) own started (by kernel_rfl) Tryd.func6
    (ChangeSpec.witness_shaped (enc := enc) (C := Tryd.checked) (os := os) (X := fun w _ => laidMetH Tryd.prog quartsLaid w) false (World.doorLaid Tryd.prog 400 os) #[.agg (List.replicate 32 (Value.int .u8 0)).toArray, .agg (List.replicate 12 (Value.int .u8 0)).toArray, .slice none 0 0] 8 rfl (World.shaped_of_RefB (by kernel_rfl) (by kernel_rfl)) (by kernel_rfl) (by kernel_rfl) (by kernel_rfl) (qdoor_met os _)) ?_
  intro W base args ds gs before hval0 hW _ _ hL _
  have hval : ∀ (j : Nat) t v, Tryd.f6.params[j]? = some t → args[j]? = some v → Value.okWide Tryd.prog W .any base t v := hval0
  have hW' := hW
  obtain ⟨p, q, hA0, hV, rfl, hfz, hnd⟩ := hW
  have hA : DataW.TrodAll enc Tryd.prog W 0 (fun _ => true) true Tryd.f6.params.toList args.toList ds p := hA0
  rw [Tryd.params6] at hA hval
  obtain ⟨v0, vs0, dd0, ds0, p0, q0, hargs, rfl, rfl, h0, r0⟩ := trodAll_cons hA
  obtain ⟨v1, vs1, dd1, ds1, p1, q1, rfl, rfl, rfl, h1, r1⟩ := trodAll_cons r0
  obtain ⟨v2, vs2, dd2, ds2, p2, q2, rfl, rfl, rfl, h2, r2⟩ := trodAll_cons r1
  obtain ⟨rfl, rfl, rfl⟩ := trodAll_nil r2
  obtain rfl : args = #[v0, v1, v2] := by cases args; simp_all
  obtain ⟨rfl, rfl⟩ := trodVars_none hV
  have g0 := h0
  have lt0 : ∀ x ∈ p0, x.block < W.heap.size := by obtain ⟨m, hm⟩ := g0; exact DataW.trod_lt m _ _ _ hm
  obtain ⟨x0, rfl, l0⟩ := bytes_of_arr Tryd.underlying23 Tryd.underlying5 (by kernel_rfl) (by kernel_rfl) (hval 0 23 v0 rfl rfl) h0
  have g1 := h1
  have lt1 : ∀ x ∈ p1, x.block < W.heap.size := by obtain ⟨m, hm⟩ := g1; exact DataW.trod_lt m _ _ _ hm
  obtain ⟨x1, rfl, l1⟩ := bytes_of_arr Tryd.underlying26 Tryd.underlying5 (by kernel_rfl) (by kernel_rfl) (hval 1 26 v1 rfl rfl) h1
  obtain ⟨A2, n2, c2, rfl⟩ := okWide_slice Tryd.underlying30 (hval 2 30 v2 rfl rfl)
  have g2 := h2
  have lt2 : ∀ x ∈ p2, x.block < W.heap.size := by obtain ⟨m, hm⟩ := g2; exact DataW.trod_lt m _ _ _ hm
  obtain ⟨x2, k2⟩ : ∃ xs, Rd W (.slice A2 n2 c2) xs := by
    obtain ⟨fuel, hf⟩ := h2
    rcases open_ints Tryd.underlying30 Tryd.underlying5 (by kernel_rfl) hf with ⟨hcs, _⟩ | ⟨x, l, c, zs, hcs, _, hl, hm, hz, _, hcell, hwz⟩
    · simp [Value.cells] at hcs
      obtain ⟨rfl, rfl, rfl⟩ := hcs
      exact ⟨[], Rd.nil W⟩
    · simp [Value.cells] at hcs
      obtain ⟨rfl, rfl, rfl⟩ := hcs
      exact rd_of_row hl hm (by simpa using hz) hcell hwz
  clear hA0 hval0
  refine (walk x0 x1 _ x2 W l0 l1 k2 (quarts_of_laid hL)).mono fun e W' ⟨he, bel⟩ => ?_
  subst he
  exact ⟨_, rfl, _, _, _, [], _, [], hW', trodAll_mk1 (shut_bool Tryd.underlying4 _), (trodAll_cons_mk (Below.trod laidOut (by kernel_rfl) (of_decide_eq_true (by kernel_rfl)) g0 bel lt0) (trodAll_cons_mk (Below.trod laidOut (by kernel_rfl) (of_decide_eq_true (by kernel_rfl)) g1 bel lt1) (trodAll_cons_mk (Below.trod laidOut (by kernel_rfl) (of_decide_eq_true (by kernel_rfl)) g2 bel lt2) trodAll_mk0))), rfl, bel.frame _, fun h => by cases h⟩

theorem over : Rows.chachaWrapsRow.holds Tryd.pinned (OpenSpec.ofChange Rows.chachaWrapsSpec) :=
  OpenClaim.holds_of_wide 6 Tryd.f6 rfl rfl rfl rfl rfl rfl rfl ⟨rfl, rfl, rfl, rfl, rfl⟩ rfl rfl rfl rfl rfl (by kernel_rfl) Tryd.func6 (by kernel_rfl)
    (of_decide_eq_true (by kernel_rfl)) (by unfold Func.isWrapper; first | (rw [if_pos (by decide +kernel)]; kernel_rfl) | (rw [if_neg (by decide +kernel)]; exact ⟨rfl, rfl⟩))
    (fun os started H enc _ => lifted os started H enc)

theorem proved : Rows.ChachaWrapsCardSaid :=
  Claim7.holds_tied_plain_at .later [] [.data] true Rows.chachaWrapsCard.stood.harness false
    over (fun _ h => by cases h) (by kernel_rfl) (fun _ h => by cases h) chachaWraps_row_tie rfl ⟨rfl, rfl⟩ (by kernel_rfl) rfl
    (fun f fn hf hfn => by
      obtain rfl : f = 6 := Option.some.inj ((show Tryd.prog.funcNamed Rows.chachaWrapsRow.func = some 6 by kernel_rfl).symm.trans hf) |>.symm
      obtain rfl : fn = Tryd.f6 := (Option.some.inj (Tryd.func6.symm.trans hfn)).symm
      exact ⟨by kernel_rfl, fun j t ht => by
        rw [Tryd.params6] at ht
        have hm := List.mem_of_getElem? (l := [23, 26, 30]) (by simpa using ht)
        simp only [List.mem_cons, List.not_mem_nil, or_false] at hm
        rcases hm with rfl | rfl | rfl
        · exact (show Tryd.prog.wantsStandIn 23 = false by kernel_rfl)
        · exact (show Tryd.prog.wantsStandIn 26 = false by kernel_rfl)
        · exact (show Tryd.prog.wantsStandIn 30 = false by kernel_rfl)⟩)
    (by kernel_rfl)
#print axioms proved
end Go.Proofs.YtnpojhmcgohdlaaDoor.chachaWraps
