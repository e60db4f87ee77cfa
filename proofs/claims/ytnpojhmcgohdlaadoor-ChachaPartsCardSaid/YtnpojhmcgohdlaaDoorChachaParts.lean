/- What is proved: 'ChachaParts' (law 4) returns true whatever comes in: a stream over bytes is that over their first block, and that of the next number over the rest; the arguments read afterwards as before.
   Conditions: none of its own. The table of the quarters reads as the program's text lays it (the card ties it; the translation is a pruned copy of the project). -/
import Derived.Test.YtnpojhmcgohdlaaDoorCards
import Derived.Test.YtnpojhmcgohdlaaDoorTie
import Derived.Test.YtnpojhmcgohdlaaDoorLaidQ
import Derived.Test.YtnpojhmcgohdlaaDoorLoadG
import Derived.Test.YtnpojhmcgohdlaaDoorCAwake
import Derived.Test.YtnpojhmcgohdlaaDoorCXor
import Derived.Test.YtnpojhmcgohdlaaDoorLent
import Derived.Test.YtnpojhmcgohdlaaDoorArrIn
import Derived.Deep.RegionHeld3
import Derived.SevenTiedAt
namespace Go.Proofs.YtnpojhmcgohdlaaDoor.chachaParts
open Go.ChangeShapes Go.WideShapes Go.ChangeAt Go.ChangeMaps Go.RowKit

/-- What the walk carries along. -/
structure TP (w : World) (KB NB : Nat) (kcs ncs : List Value) (v3 vl vh : Value) (x3 : List UInt8) (vx : Value) (m : Nat) (xs : List Value) (V : World) : Prop where
  kb : Blk V KB 23 kcs
  nb : Blk V NB 26 ncs
  rv : Rd V v3 x3
  rl : Rd V vl (x3.take 64)
  rh : Rd V vh (x3.drop 64)
  ox : V.ownsRow w.heap.size 5 1 vx m xs
  qs : Qs V
  below : Below w.heap.size w V
section
variable {w : World} {KB NB : Nat} {kcs ncs : List Value} {v3 vl vh : Value} {x3 : List UInt8} {vx : Value} {m : Nat} {xs : List Value} {V V' : World}
theorem TP.on (h : TP w KB NB kcs ncs v3 vl vh x3 vx m xs V) (hb : Below V.heap.size V V') : TP w KB NB kcs ncs v3 vl vh x3 vx m xs V' :=
  ⟨h.kb.below hb h.kb.lt, h.nb.below hb h.nb.lt, h.rv.below hb, h.rl.below hb, h.rh.below hb, own_lain h.ox hb, h.qs.below hb, h.below.trans (hb.mono h.below.size)⟩
theorem TP.drew (h : TP w KB NB kcs ncs v3 vl vh x3 vx m xs V) : TP w KB NB kcs ncs v3 vl vh x3 vx m xs V.drew := h.on (Below.refl _ _).drew
theorem TP.any (h : TP w KB NB kcs ncs v3 vl vh x3 vx m xs V) : TP w KB NB kcs ncs v3 vl vh x3 (.slice none 0 0) 0 [] V := ⟨h.kb, h.nb, h.rv, h.rl, h.rh, World.ownsRow_nil _ _ _ _, h.qs, h.below⟩
theorem Rd.grown {w w' : World} {row : Option Nat} {v : Value} {xs : List UInt8} (hg : w.grownBy w' row) (hr : Rd w v xs) (hne : ∀ k, v.ownBlock = some k → row ≠ some k) : Rd w' v xs := by
  rcases hr with h1 | ⟨b, off, c, rfl, h2, h3, h4, h5⟩
  · exact .inl h1
  · refine .inr ⟨b, off, c, rfl, Nat.lt_of_lt_of_le h2 hg.size, h3, h4, fun i hi => ?_⟩
    rw [World.cell?_of_block (w := w) (w' := w') (a := ⟨b, off + i, none⟩) (hg.block b h2 (fun e => hne b rfl e.symm))]
    exact h5 i hi
theorem Blk.range {V : World} {B : Nat} {t : TypeId} {cs : List Value} (h : Blk V B t cs) : V.rangeAt B 0 cs := fun j v hv => by
  rw [Nat.zero_add, h.cell j]
  exact hv
end

set_option maxRecDepth 100000 in
set_option maxHeartbeats 4000000 in
theorem walk (x0 : List UInt8) (x1 : List UInt8) (a2 : Int) (v3 : Value) (x3 : List UInt8) (w : World) (l0 : x0.length = 32) (l1 : x1.length = 12) (k2 : (Lit.int .u32 a2).wf = true) (k3 : Rd w v3 x3) (hk : Qs w) :
    Calls Tryd.prog 5 #[.agg (x0.map bv).toArray, .agg (x1.map bv).toArray, .int .u32 a2, v3] w fun e w' => e = .returned (.bool true) ∧ Below w.heap.size w w' := by
  obtain ⟨i0, hi, hz0, hz1, hz2⟩ := info_parts info_u8
  have b1 := bounds_u32 k2
  obtain ⟨n, rfl⟩ : ∃ N : Nat, a2 = (N : Int) := ⟨a2.toNat, by omega⟩
  have nI : (n : Int) ≤ 4294967295 := by omega
  have HN : Hid (n < 4294967296) := Lib.hid (by omega)
  have HI32 : Hid ((Tryd.prog.info? 23).map (·.size) = some 32) := by show _ = _; kernel_rfl
  have HI12 : Hid ((Tryd.prog.info? 26).map (·.size) = some 12) := by show _ = _; kernel_rfl
  obtain ⟨kcs, hkc⟩ : ∃ cs, cs = x0.map bv := ⟨_, rfl⟩
  obtain ⟨ncs, hnc⟩ : ∃ cs, cs = x1.map bv := ⟨_, rfl⟩
  rw [← hkc, ← hnc]
  have HKM : Hid (kcs.length = 32) := by show _ = _; rw [hkc, List.length_map, l0]
  have HNM : Hid (ncs.length = 12) := by show _ = _; rw [hnc, List.length_map, l1]
  have HKC := Lib.hid hkc
  have HNC := Lib.hid hnc
  have L0 := Lib.hid l0
  have L1 := Lib.hid l1
  obtain ⟨W1, hW1⟩ : ∃ W : World, W = (w.alloc (.cells kcs.toArray 23)).alloc (.cells ncs.toArray 26) := ⟨_, rfl⟩
  have D1 : Hid (Below w.heap.size w W1) := Lib.hid (by rw [hW1]; exact ((Below.refl _ _).alloc (Nat.le_refl _) _).alloc (by simp) _)
  have K1 : Hid (Blk W1 w.heap.size 23 kcs) := Lib.hid (by rw [hW1]; exact (Blk.made w _ _).alloc _)
  have N1 : Hid (Blk W1 (w.heap.size + 1) 26 ncs) := Lib.hid (by
    have h := Blk.made (w.alloc (.cells kcs.toArray 23)) 26 ncs
    rw [World.size_alloc] at h
    rw [hW1]
    exact h)
  have Q1 := Lib.hid (hk.below D1.out)
  have HX : Hid (∀ W v bs m, m < 4294967296 → Rd W v bs → bs.length ≤ 1000000 → Qs W → Calls Tryd.prog 12 #[.agg kcs.toArray, .agg ncs.toArray, .int .u32 ((m : Nat) : Int), v] W (Own W 5 (chaXor x0 x1 m bs))) := Lib.hid fun W v bs m hm hv hl hq => by
    rw [HKC.out, HNC.out]
    exact cxor_any v x0 x1 bs m W L0.out L1.out hm hv hl hq
  have HA := Lib.hid fun W hW => chaAwake_any W hW
  have R1 := Lib.hid (k3.below D1.out)
  have R0 := Lib.hid k3
  obtain ⟨A, c, rfl, hc1, hc2, _⟩ := k3.form
  have H00 : Hid (0 < w.heap.size) := Lib.hid hk.1
  clear hkc hnc l0 l1 hk k2 b1 k3
  by_cases hl : 64 ≤ x3.length ∧ x3.length ≤ 300
  · obtain ⟨hl1, hl2⟩ := hl
    have lI1 : (64 : Int) ≤ (x3.length : Int) := by omega
    have lI2 : (x3.length : Int) ≤ 300 := by omega
    have HLN : Hid (64 ≤ x3.length ∧ x3.length ≤ 300) := Lib.hid ⟨hl1, hl2⟩
    obtain ⟨Al, cl, Sl, rl⟩ := R1.out.high (P := Tryd.prog) 30 5 i0 Tryd.underlying30 hi hz1 64 hl1
    obtain ⟨Ah, ch, Sh, rh⟩ := R1.out.low (P := Tryd.prog) 30 5 i0 Tryd.underlying30 hi hz1 64 hl1
    have S1 : ∀ W, (Instr.slice 30 (.slice A x3.length c) none (some (.int .i64 64)) none).run Tryd.prog W = .ok (.slice Al 64 cl) W := fun W => Sl W
    have S2 : ∀ W, (Instr.slice 30 (.slice A x3.length c) (some (.int .i64 64)) none none).run Tryd.prog W = .ok (.slice Ah (x3.length - 64) ch) W := fun W => Sh W
    obtain ⟨m, hm⟩ : ∃ m, m = (n + 1) % 4294967296 := ⟨_, rfl⟩
    have HM := Lib.hid hm
    have rm : IntKind.u32.wrap ((n : Int) + 1) = (m : Int) := by rw [IntKind.wrap_u32']; omega
    have rm2 : ((n : Int) + 1) % 4294967296 = (m : Int) := by omega
    clear Sl Sh hm
    have hS1 : TP w w.heap.size (w.heap.size + 1) kcs ncs (.slice A x3.length c) (.slice Al 64 cl) (.slice Ah (x3.length - 64) ch) x3 (.slice none 0 0) 0 [] W1 := ⟨K1.out, N1.out, R1.out, rl, rh, World.ownsRow_nil _ _ _ _, Q1.out, D1.out⟩
    have HS1 := Lib.hid hS1
    obtain ⟨xs, hxs⟩ : ∃ z, z = (chaXor x0 x1 n (x3.take 64)).map bv := ⟨_, rfl⟩
    obtain ⟨KB, hKB⟩ : ∃ B, B = w.heap.size := ⟨_, rfl⟩
    obtain ⟨NB, hNB⟩ : ∃ B, B = w.heap.size + 1 := ⟨_, rfl⟩
    rw [← hNB, ← hKB] at HS1
    have hu1 := Tryd.underlying23
    have hu2 := Tryd.underlying26
    have hsi1 : (Tryd.prog.info? 23).map (·.size) = some kcs.length := by rw [HKM.out]; exact HI32.out
    have hsi2 : (Tryd.prog.info? 26).map (·.size) = some ncs.length := by rw [HNM.out]; exact HI12.out
    have C3 : Hid (∀ V, TP w KB NB kcs ncs (.slice A x3.length c) (.slice Al 64 cl) (.slice Ah (x3.length - 64) ch) x3 (.slice none 0 0) 0 [] V → Calls Tryd.prog 12 #[.agg kcs.toArray, .agg ncs.toArray, .int .u32 (n : Int), .slice Al 64 cl] V fun e V' => ∃ u, e = .returned u ∧ TP w KB NB kcs ncs (.slice A x3.length c) (.slice Al 64 cl) (.slice Ah (x3.length - 64) ch) x3 u 64 xs V') := Lib.hid fun V hV => (HX.out V _ (x3.take 64) n HN.out hV.rl (by rw [List.length_take]; omega) hV.qs).mono fun e V' ⟨u, he, ho, hb⟩ => by
      have k := hV.on hb
      rw [chaXor_length, List.length_take, Nat.min_eq_left HLN.out.1] at ho
      refine ⟨u, he, k.kb, k.nb, k.rv, k.rl, k.rh, ?_, k.qs, k.below⟩
      rw [hxs]
      exact own_mono ho hV.below.size
    have C4 : Hid (∀ vx V, TP w KB NB kcs ncs (.slice A x3.length c) (.slice Al 64 cl) (.slice Ah (x3.length - 64) ch) x3 vx 64 xs V → Calls Tryd.prog 12 #[.agg kcs.toArray, .agg ncs.toArray, .int .u32 (m : Int), .slice Ah (x3.length - 64) ch] V fun e V' => ∃ u, e = .returned u ∧ Rd V' u (chaXor x0 x1 m (x3.drop 64)) ∧ TP w KB NB kcs ncs (.slice A x3.length c) (.slice Al 64 cl) (.slice Ah (x3.length - 64) ch) x3 vx 64 xs V') := Lib.hid fun vx V hV => (HX.out V _ (x3.drop 64) m (by rw [HM.out]; exact Nat.mod_lt _ (by omega)) hV.rh (by rw [List.length_drop]; have := HLN.out; omega) hV.qs).mono fun e V' ⟨u, he, ho, hb⟩ => ⟨u, he, Rd.of_own ho, hV.on hb⟩
    have HXS := Lib.hid hxs
    have E1 := Lib.hid hKB
    have E2 := Lib.hid hNB
    have HW1 := Lib.hid hW1
    clear hS1 hxs hKB hNB rl rh hl1 hl2 hW1
    go_enter Tryd.func5, Tryd.ntmps5
    go_wp2_with (first
               | refine Go.Great.wpList_boxTo rfl _ _ rfl _ rfl w.heap.size rfl (kcs.toArray) rfl ?_
               | refine Go.Great.wpList_boxTo rfl _ _ rfl _ rfl (w.heap.size + 1) (by simp) (ncs.toArray) rfl ?_)
    rw [← E2.out, ← E1.out, ← HW1.out]
    have hS0 := HS1.out
    refine wp_region_held_drew (S := (TP w KB NB kcs ncs (.slice A x3.length c) (.slice Al 64 cl) (.slice Ah (x3.length - 64) ch) x3 (.slice none 0 0) 0 [])) (by kernel_rfl) ?_ (fun hHeld => ?_)
    · (first | assumption | exact TP.drew (by assumption) | exact TP.any sv1 | exact TP.any (TP.drew sv1))
    refine take_put (i := 0) (oi := _) (v := _) 20 rfl rfl (by kernel_rfl) (by kernel_rfl) (by kernel_rfl) (fun _ _ _ h => h) (yieldsIf_load_mid (by rfl) _ _ rfl KB 0 rfl kcs _ (fun _ h => Blk.range h.kb) hu1 rfl hsi1) (by assumption) ?_
    simp only [List.set_cons_zero, List.set_cons_succ]
    refine take_put (i := 1) (oi := _) (v := _) 21 rfl rfl (by kernel_rfl) (by kernel_rfl) (by kernel_rfl) (fun _ _ _ h => h) (yieldsIf_load_mid (by rfl) _ _ rfl NB 0 rfl ncs _ (fun _ h => Blk.range h.nb) hu2 rfl hsi2) (by assumption) ?_
    simp only [List.set_cons_zero, List.set_cons_succ]
    refine take_put (i := 2) (oi := _) (v := ?_) 22 rfl rfl (by kernel_rfl) (by kernel_rfl) (by kernel_rfl) (fun _ _ _ h => h) (Or.inl ⟨by rfl, ?hy2⟩) (by assumption) ?_
    case hy2 => ((intro W hSw); (try dsimp only at hSw); go_simp; try (with_reducible rfl))
    simp only [List.set_cons_zero, List.set_cons_succ]
    refine take_put (i := 3) (oi := _) (v := ?_) 23 rfl rfl (by kernel_rfl) (by kernel_rfl) (by kernel_rfl) (fun _ _ _ h => h) (Or.inl ⟨by rfl, ?hy3⟩) (by assumption) ?_
    case hy3 => ((intro W hSw); (try dsimp only at hSw); go_simp; try (with_reducible rfl))
    simp only [List.set_cons_zero, List.set_cons_succ]
    refine take_put (i := 4) (oi := _) (v := ?_) 24 rfl rfl (by kernel_rfl) (by kernel_rfl) (by kernel_rfl) (fun _ _ _ h => h) (Or.inl ⟨by rfl, ?hy4⟩) (by assumption) ?_
    case hy4 => ((intro W hSw); (try dsimp only at hSw); go_simp; try (with_reducible rfl))
    simp only [List.set_cons_zero, List.set_cons_succ]
    refine wpAnyH_ready (rs := [5]) (by kernel_rfl) (by simp) ?_
    refine AllReadyH.cons (o := _) rfl (fun K hK => ?_) AllReadyH.nil
    go_simp
    (with_reducible refine (C3.out _ ?_).mono ?_; (first | assumption | exact TP.drew (by assumption)); rintro e r1 ⟨vx, rfl, sv1⟩)
    refine hK.out _ _ ?_ (fun hHeld => ?_)
    · (first | assumption | exact TP.drew (by assumption) | exact TP.any sv1 | exact TP.any (TP.drew sv1))
    clear hK K
    try simp only [Act.put, List.setIfInBounds_toArray, List.set_cons_zero, List.set_cons_succ]
    refine take_put (i := 6) (oi := _) (v := ?_) 9 rfl rfl (by kernel_rfl) (by kernel_rfl) (by kernel_rfl) (fun _ _ _ h => h) (Or.inl ⟨by rfl, ?hy6⟩) (by assumption) ?_
    case hy6 => ((intro W hSw); (try dsimp only at hSw); go_simp; try (with_reducible rfl))
    simp only [List.set_cons_zero, List.set_cons_succ]
    refine wpAnyH_done (by kernel_rfl) ?_ _
    go_wp2_with (fail)
    have H1 := Lib.hid sv1
    have sv4 := H1.out
    clear hHeld sv1 hS0 S1
    refine wp_region_held_drew (S := (TP w KB NB kcs ncs (.slice A x3.length c) (.slice Al 64 cl) (.slice Ah (x3.length - 64) ch) x3 vx 64 xs)) (by kernel_rfl) ?_ (fun hHeld => ?_)
    · (first | assumption | exact TP.drew (by assumption))
    refine take_put (i := 0) (oi := _) (v := _) 26 rfl rfl (by kernel_rfl) (by kernel_rfl) (by kernel_rfl) (fun _ _ _ h => h) (yieldsIf_load_mid (by rfl) _ _ rfl KB 0 rfl kcs _ (fun _ h => Blk.range h.kb) hu1 rfl hsi1) (by assumption) ?_
    simp only [List.set_cons_zero, List.set_cons_succ]
    refine take_put (i := 1) (oi := _) (v := _) 27 rfl rfl (by kernel_rfl) (by kernel_rfl) (by kernel_rfl) (fun _ _ _ h => h) (yieldsIf_load_mid (by rfl) _ _ rfl NB 0 rfl ncs _ (fun _ h => Blk.range h.nb) hu2 rfl hsi2) (by assumption) ?_
    simp only [List.set_cons_zero, List.set_cons_succ]
    refine take_put (i := 2) (oi := _) (v := ?_) 28 rfl rfl (by kernel_rfl) (by kernel_rfl) (by kernel_rfl) (fun _ _ _ h => h) (Or.inl ⟨by rfl, ?hy2⟩) (by assumption) ?_
    case hy2 => ((intro W hSw); (try dsimp only at hSw); go_simp; try (with_reducible rfl))
    simp only [List.set_cons_zero, List.set_cons_succ]
    refine take_put (i := 3) (oi := _) (v := ?_) 29 rfl rfl (by kernel_rfl) (by kernel_rfl) (by kernel_rfl) (fun _ _ _ h => h) (Or.inl ⟨by rfl, ?hy3⟩) (by assumption) ?_
    case hy3 => ((intro W hSw); (try dsimp only at hSw); go_simp; try (with_reducible rfl))
    simp only [List.set_cons_zero, List.set_cons_succ]
    refine take_put (i := 4) (oi := _) (v := ?_) 30 rfl rfl (by kernel_rfl) (by kernel_rfl) (by kernel_rfl) (fun _ _ _ h => h) (Or.inl ⟨by rfl, ?hy4⟩) (by assumption) ?_
    case hy4 => ((intro W hSw); (try dsimp only at hSw); go_simp; try (with_reducible rfl))
    simp only [List.set_cons_zero, List.set_cons_succ]
    refine take_put (i := 5) (oi := _) (v := ?_) 31 rfl rfl (by kernel_rfl) (by kernel_rfl) (by kernel_rfl) (fun _ _ _ h => h) (Or.inl ⟨by rfl, ?hy5⟩) (by assumption) ?_
    case hy5 => ((intro W hSw); (try dsimp only at hSw); go_simp; try (with_reducible rfl))
    simp only [List.set_cons_zero, List.set_cons_succ]
    refine wpAnyH_ready (rs := [6]) (by kernel_rfl) (by simp) ?_
    refine AllReadyH.cons (o := _) rfl (fun K hK => ?_) AllReadyH.nil
    go_simp
    (with_reducible refine (C4.out vx _ ?_).mono ?_; (first | assumption | exact TP.drew (by assumption)); rintro e r2 ⟨vy, rfl, ry, sv2⟩)
    refine hK.out _ _ ?_ (fun hHeld => ?_)
    · (first | assumption | exact TP.drew (by assumption))
    clear hK K
    try simp only [Act.put, List.setIfInBounds_toArray, List.set_cons_zero, List.set_cons_succ]
    refine take_put (i := 7) (oi := _) (v := ?_) 10 rfl rfl (by kernel_rfl) (by kernel_rfl) (by kernel_rfl) (fun _ _ _ h => h) (Or.inl ⟨by rfl, ?hy7⟩) (by assumption) ?_
    case hy7 => ((intro W hSw); (try dsimp only at hSw); go_simp; try (with_reducible rfl))
    simp only [List.set_cons_zero, List.set_cons_succ]
    refine wpAnyH_done (by kernel_rfl) ?_ _
    have H2 := Lib.hid sv2
    have RY := Lib.hid ry
    clear hHeld sv2 sv4 S2 rm rm2 ry
    go_wp2_with (first
                 | refine wpList_load_blk rfl 23 (.tmp 4) rfl KB rfl 23 kcs _ H2.out.kb Tryd.underlying23 rfl (by rw [HKM.out]; exact HI32.out) ?_
                 | refine wpList_load_blk rfl 26 (.tmp 5) rfl NB rfl 26 ncs _ H2.out.nb Tryd.underlying26 rfl (by rw [HNM.out]; exact HI12.out) ?_)
    refine (HX.out _ _ x3 n HN.out H2.out.rv (by have := HLN.out; omega) H2.out.qs).mono ?_
    rintro e w5 ⟨vz, rfl, oz, hb5⟩
    have H5 := Lib.hid (H2.out.on hb5)
    have RZ := Lib.hid (Rd.of_own oz)
    have RY5 := Lib.hid (RY.out.below hb5)
    have NE : Hid (∀ k, vz.ownBlock = some k → vx.ownBlock ≠ some k) := Lib.hid fun k h1 h2 => by have := (oz.lt k h1).1; have := (H2.out.ox.lt k h2).2; omega
    clear oz hb5
    go_wp2_with (at_builtin
                 refine wpList_append_rd _ rfl (.tmp 38) (.tmp 39) _ rfl w.heap.size 5 i0 _ Tryd.underlying30 hi hz0 hz1 hz2 rfl vx 64 xs rfl H5.out.ox vy (chaXor x0 x1 m (x3.drop 64)) rfl RY5.out ?_ ?_ ?_
                 · rw [chaXor_length, List.length_drop]; have := HLN.out; omega
                 · exact H5.out.below.size
                 intro va w6 own6 g6)
    have B6 := (Below.refl w.heap.size w5).grown g6 H5.out.below.size (own_ge H5.out.ox)
    have D6 : Hid (Below w.heap.size w w6) := Lib.hid (H5.out.below.trans B6)
    have Q6 : Hid (Qs w6) := Lib.hid ⟨Nat.lt_of_lt_of_le H5.out.qs.1 B6.size, fun i hi => (B6.cell (p := ⟨0, i, none⟩) H00.out).trans (H5.out.qs.2 i hi)⟩
    have Z6 := Lib.hid (Rd.grown g6 RZ.out NE.out)
    have HP := chaXor_parts x0 x1 n x3 HLN.out.1
    rw [← HM.out] at HP
    have RA : Hid (Rd w6 va (chaXor x0 x1 n x3)) := Lib.hid (by
      rw [HXS.out, ← List.map_append, ← HP] at own6
      exact Rd.of_own own6)
    clear own6 g6 B6 HP RZ RY5 H5
    go_wp2_with (fail)
    refine (same_yes _ _ _ _ Z6.out RA.out).mono ?_
    rintro e w7 ⟨rfl, n7, hn7⟩
    have Q7 : Hid (Qs w7) := Lib.hid (hn7 ▸ Q6.out)
    have D7 : Hid (Below w.heap.size w w7) := Lib.hid (hn7 ▸ below_drewN D6.out n7)
    clear hn7 Q6 D6 Z6 RA
    go_wp2_with (fail)
    refine (HA.out _ Q7.out).mono ?_
    rintro e w8 ⟨rfl, hb8⟩
    have D8 := Lib.hid (D7.out.trans (hb8.mono D7.out.size))
    clear hb8
    go_wp2_with (fail)
    go_ret
    exact ⟨rfl, D8.out⟩
  · subst hW1
    rcases Nat.lt_or_ge x3.length 64 with h | h
    · have lI : (x3.length : Int) < 64 := by omega
      clear hl
      go_enter Tryd.func5, Tryd.ntmps5
      go_wp2_with (first
                   | refine Go.Great.wpList_boxTo rfl _ _ rfl _ rfl w.heap.size rfl (kcs.toArray) rfl ?_
                   | refine Go.Great.wpList_boxTo rfl _ _ rfl _ rfl (w.heap.size + 1) (by simp) (ncs.toArray) rfl ?_)
      refine (HA.out _ Q1.out).mono ?_
      rintro e w2 ⟨rfl, hb2⟩
      have D2 := Lib.hid (D1.out.trans (hb2.mono D1.out.size))
      clear hb2
      go_wp2_with (fail)
      go_ret
      exact ⟨rfl, D2.out⟩
    · have lI : (300 : Int) < (x3.length : Int) := by omega
      have lI2 : (64 : Int) ≤ (x3.length : Int) := by omega
      clear hl
      go_enter Tryd.func5, Tryd.ntmps5
      go_wp2_with (first
                   | refine Go.Great.wpList_boxTo rfl _ _ rfl _ rfl w.heap.size rfl (kcs.toArray) rfl ?_
                   | refine Go.Great.wpList_boxTo rfl _ _ rfl _ rfl (w.heap.size + 1) (by simp) (ncs.toArray) rfl ?_)
      refine (HA.out _ Q1.out).mono ?_
      rintro e w2 ⟨rfl, hb2⟩
      have D2 := Lib.hid (D1.out.trans (hb2.mono D1.out.size))
      clear hb2
      go_wp2_with (fail)
      go_ret
      exact ⟨rfl, D2.out⟩

theorem own : ownKnob Tryd.prog.godebug = none := by kernel_rfl
theorem laidOut : laidOutB Tryd.prog = true := by kernel_rfl

set_option maxRecDepth 100000 in
theorem lifted (os : Os) (started : os.Started) (H : Type) (enc : TypeId × Value → H) :
    ReturnsInHanded {} Tryd.checked os 5 .any (fun w args => (Rows.chachaPartsSpec.pre enc Tryd.prog Tryd.f5 Rows.chachaPartsRow.domain false w args ∧ laidMetH Tryd.prog quartsLaid w) ∧ sizedMet enc Tryd.prog Tryd.f5 (OpenSpec.ofChange Rows.chachaPartsSpec) false w args) (Rows.chachaPartsSpec.post enc Tryd.prog Tryd.f5 false true false false) := by
  refine returnsInHanded_of_change_and (C := Tryd.checked) (X := fun w _ => laidMetH Tryd.prog quartsLaid w) (fun _ _ _ hh h => h.of_heap hh) own started (by kernel_rfl) Tryd.func5
    (ChangeSpec.witness_shaped (enc := enc) (C := Tryd.checked) (os := os) (X := fun w _ => laidMetH Tryd.prog quartsLaid w) false (World.doorLaid Tryd.prog 400 os) #[.agg (List.replicate 32 (Value.int .u8 0)).toArray, .agg (List.replicate 12 (Value.int .u8 0)).toArray, .int .u32 0, .slice none 0 0] 8 rfl (World.shaped_of_RefB (by kernel_rfl) (by kernel_rfl)) (by kernel_rfl) (by kernel_rfl) (by kernel_rfl) (qdoor_met os _)) ?_
  intro W base args ds gs before hval0 hW _ _ hL _
  have hval : ∀ (j : Nat) t v, Tryd.f5.params[j]? = some t → args[j]? = some v → Value.okWide Tryd.prog W .any base t v := hval0
  have hW' := hW
  obtain ⟨p, q, hA0, hV, rfl, hfz, hnd⟩ := hW
  have hA : DataW.TrodAll enc Tryd.prog W 0 (fun _ => true) true Tryd.f5.params.toList args.toList ds p := hA0
  rw [Tryd.params5] at hA hval
  obtain ⟨v0, vs0, dd0, ds0, p0, q0, hargs, rfl, rfl, h0, r0⟩ := trodAll_cons hA
  obtain ⟨v1, vs1, dd1, ds1, p1, q1, rfl, rfl, rfl, h1, r1⟩ := trodAll_cons r0
  obtain ⟨v2, vs2, dd2, ds2, p2, q2, rfl, rfl, rfl, h2, r2⟩ := trodAll_cons r1
  obtain ⟨v3, vs3, dd3, ds3, p3, q3, rfl, rfl, rfl, h3, r3⟩ := trodAll_cons r2
  obtain ⟨rfl, rfl, rfl⟩ := trodAll_nil r3
  obtain rfl : args = #[v0, v1, v2, v3] := by cases args; simp_all
  obtain ⟨rfl, rfl⟩ := trodVars_none hV
  have g0 := h0
  have lt0 : ∀ x ∈ p0, x.block < W.heap.size := by obtain ⟨m, hm⟩ := g0; exact DataW.trod_lt m _ _ _ hm
  obtain ⟨x0, rfl, l0⟩ := bytes_of_arr Tryd.underlying23 Tryd.underlying5 (by kernel_rfl) (by kernel_rfl) (hval 0 23 v0 rfl rfl) h0
  have g1 := h1
  have lt1 : ∀ x ∈ p1, x.block < W.heap.size := by obtain ⟨m, hm⟩ := g1; exact DataW.trod_lt m _ _ _ hm
  obtain ⟨x1, rfl, l1⟩ := bytes_of_arr Tryd.underlying26 Tryd.underlying5 (by kernel_rfl) (by kernel_rfl) (hval 1 26 v1 rfl rfl) h1
  obtain ⟨a2, rfl, rfl, rfl, k2⟩ := open_int Tryd.underlying24 (hval 2 24 v2 rfl rfl) h2
  obtain ⟨A3, n3, c3, rfl⟩ := okWide_slice Tryd.underlying30 (hval 3 30 v3 rfl rfl)
  have g3 := h3
  have lt3 : ∀ x ∈ p3, x.block < W.heap.size := by obtain ⟨m, hm⟩ := g3; exact DataW.trod_lt m _ _ _ hm
  obtain ⟨x3, k3⟩ : ∃ xs, Rd W (.slice A3 n3 c3) xs := by
    obtain ⟨fuel, hf⟩ := h3
    rcases open_ints Tryd.underlying30 Tryd.underlying5 (by kernel_rfl) hf with ⟨hcs, _⟩ | ⟨x, l, c, zs, hcs, _, hl, hm, hz, _, hcell, hwz⟩
    · simp [Value.cells] at hcs
      obtain ⟨rfl, rfl, rfl⟩ := hcs
      exact ⟨[], Rd.nil W⟩
    · simp [Value.cells] at hcs
      obtain ⟨rfl, rfl, rfl⟩ := hcs
      exact rd_of_row hl hm (by simpa using hz) hcell hwz
  clear hA0 hval0
  refine (walk x0 x1 a2 _ x3 W l0 l1 k2 k3 (quarts_of_laid hL)).mono fun e W' ⟨he, bel⟩ => ?_
  subst he
  exact ⟨_, rfl, _, _, _, [], _, [], hW', trodAll_mk1 (shut_bool Tryd.underlying4 _), (trodAll_cons_mk (Below.trod laidOut (by kernel_rfl) (of_decide_eq_true (by kernel_rfl)) g0 bel lt0) (trodAll_cons_mk (Below.trod laidOut (by kernel_rfl) (of_decide_eq_true (by kernel_rfl)) g1 bel lt1) (trodAll_cons_mk (shut_int Tryd.underlying24 k2) (trodAll_cons_mk (Below.trod laidOut (by kernel_rfl) (of_decide_eq_true (by kernel_rfl)) g3 bel lt3) trodAll_mk0)))), rfl, bel.frame _, fun h => by cases h⟩

theorem over : Rows.chachaPartsRow.holds Tryd.pinned (OpenSpec.ofChange Rows.chachaPartsSpec) :=
  OpenClaim.holds_of_wide 5 Tryd.f5 rfl rfl rfl rfl rfl rfl rfl ⟨rfl, rfl, rfl, rfl, rfl⟩ rfl rfl rfl rfl rfl (by kernel_rfl) Tryd.func5 (by kernel_rfl)
    (of_decide_eq_true (by kernel_rfl)) (by unfold Func.isWrapper; first | (rw [if_pos (by decide +kernel)]; kernel_rfl) | (rw [if_neg (by decide +kernel)]; exact ⟨rfl, rfl⟩))
    (fun os started H enc _ => lifted os started H enc)

theorem proved : Rows.ChachaPartsCardSaid :=
  Claim7.holds_tied_plain_at .later [] [.data] true Rows.chachaPartsCard.stood.harness false
    over (fun _ h => by cases h) (by kernel_rfl) (fun _ h => by cases h) chachaParts_row_tie rfl ⟨rfl, rfl⟩ (by kernel_rfl) rfl
    (fun f fn hf hfn => by
      obtain rfl : f = 5 := Option.some.inj ((show Tryd.prog.funcNamed Rows.chachaPartsRow.func = some 5 by kernel_rfl).symm.trans hf) |>.symm
      obtain rfl : fn = Tryd.f5 := (Option.some.inj (Tryd.func5.symm.trans hfn)).symm
      exact ⟨by kernel_rfl, fun j t ht => by
        rw [Tryd.params5] at ht
        have hm := List.mem_of_getElem? (l := [23, 26, 24, 30]) (by simpa using ht)
        simp only [List.mem_cons, List.not_mem_nil, or_false] at hm
        rcases hm with rfl | rfl | rfl | rfl
        · exact (show Tryd.prog.wantsStandIn 23 = false by kernel_rfl)
        · exact (show Tryd.prog.wantsStandIn 26 = false by kernel_rfl)
        · exact (show Tryd.prog.wantsStandIn 24 = false by kernel_rfl)
        · exact (show Tryd.prog.wantsStandIn 30 = false by kernel_rfl)⟩)
    (by kernel_rfl)
#print axioms proved
end Go.Proofs.YtnpojhmcgohdlaaDoor.chachaParts
