/- What is proved: 'ChachaBlocks' (law 4) returns true whatever comes in: any block is the document's; the arguments read afterwards as before.
   Conditions: none of its own. The table of the quarters reads as the program's text lays it (the card ties it; the translation is a pruned copy of the project). -/
import Derived.Test.YtnpojhmcgohdlaaDoorCards
import Derived.Test.YtnpojhmcgohdlaaDoorTie
import Derived.Test.YtnpojhmcgohdlaaDoorLaidQ
import Derived.Test.YtnpojhmcgohdlaaDoorCAwake
import Derived.Test.YtnpojhmcgohdlaaDoorRefBlk
import Derived.Test.YtnpojhmcgohdlaaDoorLent
import Derived.Test.YtnpojhmcgohdlaaDoorArrIn
import Derived.Deep.RegionHeld3
import Derived.SevenTiedAt
namespace Go.Proofs.YtnpojhmcgohdlaaDoor.chachaBlocks
open Go.ChangeShapes Go.WideShapes Go.ChangeAt Go.ChangeMaps Go.RowKit

/-- What the last statement leans on. -/
structure TB (w : World) (KB NB BB : Nat) (kcs ncs rcs : List Value) (V : World) : Prop where
  kb : Blk V KB 23 kcs
  nb : Blk V NB 26 ncs
  bb : Blk V BB 27 rcs
  qs : Qs V
  below : Below w.heap.size w V
section
variable {w : World} {KB NB BB : Nat} {kcs ncs rcs : List Value} {V V' : World}
theorem TB.on (h : TB w KB NB BB kcs ncs rcs V) (hb : Below V.heap.size V V') : TB w KB NB BB kcs ncs rcs V' :=
  ⟨h.kb.below hb h.kb.lt, h.nb.below hb h.nb.lt, h.bb.below hb h.bb.lt, h.qs.below hb, h.below.trans (hb.mono h.below.size)⟩
theorem TB.drewN (h : TB w KB NB BB kcs ncs rcs V) (n : Nat) : TB w KB NB BB kcs ncs rcs (V.drewN n) := h.on (below_drewN (Below.refl _ _) n)
theorem TB.drew (h : TB w KB NB BB kcs ncs rcs V) : TB w KB NB BB kcs ncs rcs V.drew := h.on (Below.refl _ _).drew
theorem TB.alloc (h : TB w KB NB BB kcs ncs rcs V) (o : Obj) : TB w KB NB BB kcs ncs rcs (V.alloc o) := h.on ((Below.refl _ _).alloc (Nat.le_refl _) o)
theorem Blk.range {V : World} {B : Nat} {t : TypeId} {cs : List Value} (h : Blk V B t cs) : V.rangeAt B 0 cs := fun j v hv => by
  rw [Nat.zero_add, h.cell j]
  exact hv
end

set_option maxRecDepth 100000 in
set_option maxHeartbeats 2000000 in
theorem walk (x0 : List UInt8) (a1 : Int) (x2 : List UInt8) (w : World) (l0 : x0.length = 32) (k1 : (Lit.int .u32 a1).wf = true) (l2 : x2.length = 12) (hk : Qs w) :
    Calls Tryd.prog 3 #[.agg (x0.map bv).toArray, .int .u32 a1, .agg (x2.map bv).toArray] w fun e w' => e = .returned (.bool true) ∧ Below w.heap.size w w' := by
  have b1 := bounds_u32 k1
  obtain ⟨n, rfl⟩ : ∃ N : Nat, a1 = (N : Int) := ⟨a1.toNat, by omega⟩
  have nI : (n : Int) ≤ 4294967295 := by omega
  have hn : n < 4294967296 := by omega
  have HI32 : Hid ((Tryd.prog.info? 23).map (·.size) = some 32) := by show _ = _; kernel_rfl
  have HI12 : Hid ((Tryd.prog.info? 26).map (·.size) = some 12) := by show _ = _; kernel_rfl
  have HI64 : Hid ((Tryd.prog.info? 27).map (·.size) = some 64) := by show _ = _; kernel_rfl
  obtain ⟨kcs, hkc⟩ : ∃ cs, cs = x0.map bv := ⟨_, rfl⟩
  obtain ⟨ncs, hnc⟩ : ∃ cs, cs = x2.map bv := ⟨_, rfl⟩
  rw [← hkc, ← hnc]
  have HKM : Hid (kcs.length = 32) := by show _ = _; rw [hkc, List.length_map, l0]
  have HNM : Hid (ncs.length = 12) := by show _ = _; rw [hnc, List.length_map, l2]
  have HKC := Lib.hid hkc
  have HNC := Lib.hid hnc
  have L0 := Lib.hid l0
  have L2 := Lib.hid l2
  obtain ⟨W1, hW1⟩ : ∃ W : World, W = (w.alloc (.cells kcs.toArray 23)).alloc (.cells ncs.toArray 26) := ⟨_, rfl⟩
  have D1 : Hid (Below w.heap.size w W1) := Lib.hid (by rw [hW1]; exact ((Below.refl _ _).alloc (Nat.le_refl _) _).alloc (by simp) _)
  have K1 : Hid (Blk W1 w.heap.size 23 kcs) := Lib.hid (by rw [hW1]; exact (Blk.made w _ _).alloc _)
  have N1 : Hid (Blk W1 (w.heap.size + 1) 26 ncs) := Lib.hid (by
    have h := Blk.made (w.alloc (.cells kcs.toArray 23)) 26 ncs
    rw [World.size_alloc] at h
    rw [hW1]
    exact h)
  have HC : Hid (∀ W, Qs W → Calls Tryd.prog 7 #[.agg kcs.toArray, .int .u32 (n : Int), .agg ncs.toArray] W fun e w' => e = .returned (.agg ((chaBlock x0 n x2).map bv).toArray) ∧ Below W.heap.size W w') := Lib.hid fun W hW => by
    rw [HKC.out, HNC.out]
    exact cmain_any x0 x2 n W L0.out L2.out hn hW
  have Q1 := Lib.hid (hk.below D1.out)
  obtain ⟨res, hres⟩ := ex_eq1 (chaBlock x0 n x2)
  have LR : Hid (res.length = 64) := by show _ = _; rw [hres, chaBlock_length]
  have HRES := Lib.hid hres
  rw [← hres] at HC
  obtain ⟨rcs, hrc⟩ : ∃ cs, cs = res.map bv := ⟨_, rfl⟩
  rw [← hrc] at HC
  have LRM : Hid (rcs.length = 64) := by show _ = _; rw [hrc, List.length_map, LR.out]
  have HRC := Lib.hid hrc
  have H1 : Hid (∀ v ∈ rcs, v.oneCell' = true) := Lib.hid (by rw [hrc]; exact bv_one _)
  clear hkc hnc l0 l2 hk k1 b1 hres hrc
  subst hW1
  go_enter Tryd.func3, Tryd.ntmps3
  go_wp2_with (first
               | refine Go.Great.wpList_boxTo rfl _ _ rfl _ rfl w.heap.size rfl (kcs.toArray) rfl ?_
               | refine Go.Great.wpList_boxTo rfl _ _ rfl _ rfl (w.heap.size + 1) (by simp) (ncs.toArray) rfl ?_
               | refine wpList_load_blk rfl 23 (.tmp 3) rfl w.heap.size rfl 23 kcs _ K1.out Tryd.underlying23 rfl (by rw [HKM.out]; exact HI32.out) ?_
               | refine wpList_load_blk rfl 26 (.tmp 5) rfl (w.heap.size + 1) rfl 26 ncs _ N1.out Tryd.underlying26 rfl (by rw [HNM.out]; exact HI12.out) ?_)
  refine (HC.out _ Q1.out).mono ?_
  rintro e w2 ⟨rfl, hb2⟩
  have B2 := Lib.hid (Blk.made w2 27 (List.replicate 64 (Value.int .u8 0)))
  have D2 : Hid (Below w.heap.size w w2) := Lib.hid (D1.out.trans (hb2.mono D1.out.size))
  have K2 := Lib.hid (K1.out.below hb2 K1.out.lt)
  have N2 := Lib.hid (N1.out.below hb2 N1.out.lt)
  have Q2 := Lib.hid (Q1.out.below hb2)
  clear hb2 K1 N1 D1 Q1
  go_wp2_with (refine wpList_store_blk rfl 27 (.tmp 7) (.tmp 11) rfl w2.heap.size 27 _ B2.out rcs rfl rfl (by rw [LRM.out]; rfl) (by rw [LRM.out]; exact HI64.out) H1.out ?_
               intro w3 hb3 hs3)
  obtain ⟨KB, hKB⟩ : ∃ B, B = w.heap.size := ⟨_, rfl⟩
  obtain ⟨NB, hNB⟩ : ∃ B, B = w.heap.size + 1 := ⟨_, rfl⟩
  obtain ⟨BB, hBB⟩ : ∃ B, B = w2.heap.size := ⟨_, rfl⟩
  have hS0 : TB w KB NB BB kcs ncs rcs w3 := by
    rw [hKB, hNB, hBB]
    have hq := (Q2.out.alloc (.cells (List.replicate 64 (Value.int .u8 0)).toArray 27))
    refine ⟨hs3.blk (K2.out.alloc _) (by have := K2.out.lt; omega), hs3.blk (N2.out.alloc _) (by have := N2.out.lt; omega), hb3, ?_, (D2.out.alloc D2.out.size _).trans (hs3.below.mono D2.out.size)⟩
    exact ⟨Nat.lt_of_lt_of_le hq.1 (Nat.le_of_eq hs3.size.symm), fun i hi => (hs3.cell (p := ⟨0, i, none⟩) (by have := Q2.out.1; show 0 ≠ w2.heap.size; omega)).trans (hq.2 i hi)⟩
  have hu1 := Tryd.underlying23
  have hu2 := Tryd.underlying26
  have hsi1 : (Tryd.prog.info? 23).map (·.size) = some kcs.length := by rw [HKM.out]; exact HI32.out
  have hsi2 : (Tryd.prog.info? 26).map (·.size) = some ncs.length := by rw [HNM.out]; exact HI12.out
  have C4 : Hid (∀ V, TB w KB NB BB kcs ncs rcs V → Calls Tryd.prog 9 #[.agg kcs.toArray, .int .u32 (n : Int), .agg ncs.toArray] V fun e V' => ∃ u, e = .returned u ∧ Rd V' u res ∧ TB w KB NB BB kcs ncs rcs V') := Lib.hid fun V hV => by
    have h := refBlk_any x0 x2 n V L0.out L2.out hn
    unfold arrV at h
    rw [← HKC.out, ← HNC.out, ← HRES.out] at h
    exact h.mono fun e V' h => by
      obtain ⟨u, he, hr, hb⟩ := h.fresh
      exact ⟨u, he, hr, hV.on hb⟩
  have C5 : Hid (∀ V u, TB w KB NB BB kcs ncs rcs V → Rd V u res → Calls Tryd.prog 8 #[.slice (some ⟨BB, 0, none⟩) 64 64, u] V fun e V' => e = .returned (.bool true) ∧ TB w KB NB BB kcs ncs rcs V') := Lib.hid fun V u hV hr => (same_yes _ _ res V (by
    have h := Blk.rd (HRC.out ▸ hV.bb) 64 64 (by rw [LR.out]; omega) (by omega) (by unfold maxLen; omega)
    rwa [List.take_of_length_le (by rw [LR.out]; omega)] at h) hr).mono fun e V' ⟨he, n, hn⟩ => ⟨he, hn ▸ hV.drewN n⟩
  have C7 : Hid (∀ V, TB w KB NB BB kcs ncs rcs V → Calls Tryd.prog 10 #[] V fun e V' => e = .returned (.bool true) ∧ TB w KB NB BB kcs ncs rcs V') := Lib.hid fun V hV => (chaAwake_any V hV.qs).mono fun e V' ⟨he, hb⟩ => ⟨he, hV.on hb⟩
  rw [← hBB, ← hNB, ← hKB]
  have E1 := Lib.hid hKB
  have E2 := Lib.hid hNB
  have E3 := Lib.hid hBB
  clear hKB hNB hBB hb3 hs3 hn
  refine wp_region_held_drew (S := (TB w KB NB BB kcs ncs rcs)) (by kernel_rfl) ?_ (fun hHeld => ?_)
  · (first | assumption | exact TB.drew (by assumption) | exact TB.alloc (by assumption) _ | exact TB.drew (TB.alloc (by assumption) _))
  refine take_put (i := 0) (oi := _) (v := ?_) 12 rfl rfl (by kernel_rfl) (by kernel_rfl) (by kernel_rfl) (fun _ _ _ h => h) (Or.inl ⟨by rfl, ?hy0⟩) (by assumption) ?_
  case hy0 => ((intro W hSw); (try dsimp only at hSw); go_simp; try (with_reducible rfl))
  simp only [List.set_cons_zero, List.set_cons_succ]
  refine take_put (i := 1) (oi := _) (v := _) 13 rfl rfl (by kernel_rfl) (by kernel_rfl) (by kernel_rfl) (fun _ _ _ h => h) (yieldsIf_load_mid (by rfl) _ _ rfl KB 0 rfl kcs _ (fun _ h => Blk.range h.kb) hu1 rfl hsi1) (by assumption) ?_
  simp only [List.set_cons_zero, List.set_cons_succ]
  refine take_put (i := 2) (oi := _) (v := ?_) 14 rfl rfl (by kernel_rfl) (by kernel_rfl) (by kernel_rfl) (fun _ _ _ h => h) (Or.inl ⟨by rfl, ?hy2⟩) (by assumption) ?_
  case hy2 => ((intro W hSw); (try dsimp only at hSw); go_simp; try (with_reducible rfl))
  simp only [List.set_cons_zero, List.set_cons_succ]
  refine take_put (i := 3) (oi := _) (v := _) 15 rfl rfl (by kernel_rfl) (by kernel_rfl) (by kernel_rfl) (fun _ _ _ h => h) (yieldsIf_load_mid (by rfl) _ _ rfl NB 0 rfl ncs _ (fun _ h => Blk.range h.nb) hu2 rfl hsi2) (by assumption) ?_
  simp only [List.set_cons_zero, List.set_cons_succ]
  refine wpAnyH_ready (rs := [4]) (by kernel_rfl) (by simp) ?_
  refine AllReadyH.cons (o := _) rfl (fun K hK => ?_) AllReadyH.nil
  go_simp
  (with_reducible refine (C4.out _ ?_).mono ?_; (first | assumption | exact TB.drew (by assumption)); rintro e r1 ⟨u, rfl, rdu, sv1⟩)
  refine hK.out _ _ ?_ (fun hHeld => ?_)
  · (first | assumption | exact TB.drew (by assumption) | exact TB.alloc (by assumption) _ | exact TB.drew (TB.alloc (by assumption) _))
  clear hK K
  try simp only [Act.put, List.setIfInBounds_toArray, List.set_cons_zero, List.set_cons_succ]
  refine wpAnyH_ready (rs := [5]) (by kernel_rfl) (by simp) ?_
  refine AllReadyH.cons (o := _) rfl (fun K hK => ?_) AllReadyH.nil
  go_simp
  (with_reducible refine (C5.out _ u ?_ ?_).mono ?_; (first | assumption | exact TB.drew (by assumption)); (first | exact rdu | exact rdu.drew); rintro e r2 ⟨rfl, sv2⟩)
  refine hK.out _ _ ?_ (fun hHeld => ?_)
  · (first | assumption | exact TB.drew (by assumption) | exact TB.alloc (by assumption) _ | exact TB.drew (TB.alloc (by assumption) _))
  clear hK K
  try simp only [Act.put, List.setIfInBounds_toArray, List.set_cons_zero, List.set_cons_succ]
  refine take_put (i := 6) (oi := _) (v := ?_) 18 rfl rfl (by kernel_rfl) (by kernel_rfl) (by kernel_rfl) (fun _ _ _ h => h) (Or.inl ⟨by rfl, ?hy6⟩) (by assumption) ?_
  case hy6 => ((intro W hSw); (try dsimp only at hSw); go_simp; try (with_reducible rfl))
  simp only [List.set_cons_zero, List.set_cons_succ]
  refine wpAnyH_ready (rs := [7]) (by kernel_rfl) (by simp) ?_
  refine AllReadyH.cons (o := _) rfl (fun K hK => ?_) AllReadyH.nil
  go_simp
  (with_reducible refine (C7.out _ ?_).mono ?_; (first | assumption | exact TB.drew (by assumption)); rintro e r3 ⟨rfl, sv3⟩)
  refine hK.out _ _ ?_ (fun hHeld => ?_)
  · (first | assumption | exact TB.drew (by assumption) | exact TB.alloc (by assumption) _ | exact TB.drew (TB.alloc (by assumption) _))
  clear hK K
  try simp only [Act.put, List.setIfInBounds_toArray, List.set_cons_zero, List.set_cons_succ]
  refine take_put (i := 8) (oi := _) (v := ?_) 20 rfl rfl (by kernel_rfl) (by kernel_rfl) (by kernel_rfl) (fun _ _ _ h => h) (Or.inl ⟨by rfl, ?hy8⟩) (by assumption) ?_
  case hy8 => ((intro W hSw); (try dsimp only at hSw); go_simp; try (with_reducible rfl))
  simp only [List.set_cons_zero, List.set_cons_succ]
  refine take_put (i := 9) (oi := _) (v := ?_) 6 rfl rfl (by kernel_rfl) (by kernel_rfl) (by kernel_rfl) (fun _ _ _ h => h) (Or.inl ⟨by rfl, ?hy9⟩) (by assumption) ?_
  case hy9 => ((intro W hSw); (try dsimp only at hSw); go_simp; try (with_reducible rfl))
  simp only [List.set_cons_zero, List.set_cons_succ]
  refine wpAnyH_done (by kernel_rfl) ?_ _
  go_wp2_with (fail)
  go_ret
  exact ⟨rfl, hHeld.below⟩

theorem own : ownKnob Tryd.prog.godebug = none := by kernel_rfl
theorem laidOut : laidOutB Tryd.prog = true := by kernel_rfl

set_option maxRecDepth 100000 in
theorem lifted (os : Os) (started : os.Started) (H : Type) (enc : TypeId × Value → H) :
    ReturnsInHanded {} Tryd.checked os 3 .any (fun w args => (Rows.chachaBlocksSpec.pre enc Tryd.prog Tryd.f3 Rows.chachaBlocksRow.domain false w args ∧ laidMetH Tryd.prog quartsLaid w) ∧ sizedMet enc Tryd.prog Tryd.f3 (OpenSpec.ofChange Rows.chachaBlocksSpec) false w args) (Rows.chachaBlocksSpec.post enc Tryd.prog Tryd.f3 false true false false) := by
  refine returnsInHanded_of_change_and (C := Tryd.checked) (X := fun w _ => laidMetH Tryd.prog quartsLaid w) (fun _ _ _ hh h => h.of_heap hh) own started (by kernel_rfl) Tryd.func3
    (ChangeSpec.witness_shaped (enc := enc) (C := Tryd.checked) (os := os) (X := fun w _ => laidMetH Tryd.prog quartsLaid w) false (World.doorLaid Tryd.prog 400 os) #[.agg (List.replicate 32 (Value.int .u8 0)).toArray, .int .u32 0, .agg (List.replicate 12 (Value.int .u8 0)).toArray] 8 rfl (World.shaped_of_RefB (by kernel_rfl) (by kernel_rfl)) (by kernel_rfl) (by kernel_rfl) (by kernel_rfl) (qdoor_met os _)) ?_
  intro W base args ds gs before hval0 hW _ _ hL _
  have hval : ∀ (j : Nat) t v, Tryd.f3.params[j]? = some t → args[j]? = some v → Value.okWide Tryd.prog W .any base t v := hval0
  have hW' := hW
  obtain ⟨p, q, hA0, hV, rfl, hfz, hnd⟩ := hW
  have hA : DataW.TrodAll enc Tryd.prog W 0 (fun _ => true) true Tryd.f3.params.toList args.toList ds p := hA0
  rw [Tryd.params3] at hA hval
  obtain ⟨v0, vs0, dd0, ds0, p0, q0, hargs, rfl, rfl, h0, r0⟩ := trodAll_cons hA
  obtain ⟨v1, vs1, dd1, ds1, p1, q1, rfl, rfl, rfl, h1, r1⟩ := trodAll_cons r0
  obtain ⟨v2, vs2, dd2, ds2, p2, q2, rfl, rfl, rfl, h2, r2⟩ := trodAll_cons r1
  obtain ⟨rfl, rfl, rfl⟩ := trodAll_nil r2
  obtain rfl : args = #[v0, v1, v2] := by cases args; simp_all
  obtain ⟨rfl, rfl⟩ := trodVars_none hV
  have g0 := h0
  have lt0 : ∀ x ∈ p0, x.block < W.heap.size := by obtain ⟨m, hm⟩ := g0; exact DataW.trod_lt m _ _ _ hm
  obtain ⟨x0, rfl, l0⟩ := bytes_of_arr Tryd.underlying23 Tryd.underlying5 (by kernel_rfl) (by kernel_rfl) (hval 0 23 v0 rfl rfl) h0
  obtain ⟨a1, rfl, rfl, rfl, k1⟩ := open_int Tryd.underlying24 (hval 1 24 v1 rfl rfl) h1
  have g2 := h2
  have lt2 : ∀ x ∈ p2, x.block < W.heap.size := by obtain ⟨m, hm⟩ := g2; exact DataW.trod_lt m _ _ _ hm
  obtain ⟨x2, rfl, l2⟩ := bytes_of_arr Tryd.underlying26 Tryd.underlying5 (by kernel_rfl) (by kernel_rfl) (hval 2 26 v2 rfl rfl) h2
  clear hA0 hval0
  refine (walk x0 a1 x2 W l0 k1 l2 (quarts_of_laid hL)).mono fun e W' ⟨he, bel⟩ => ?_
  subst he
  exact ⟨_, rfl, _, _, _, [], _, [], hW', trodAll_mk1 (shut_bool Tryd.underlying4 _), (trodAll_cons_mk (Below.trod laidOut (by kernel_rfl) (of_decide_eq_true (by kernel_rfl)) g0 bel lt0) (trodAll_cons_mk (shut_int Tryd.underlying24 k1) (trodAll_cons_mk (Below.trod laidOut (by kernel_rfl) (of_decide_eq_true (by kernel_rfl)) g2 bel lt2) trodAll_mk0))), rfl, bel.frame _, fun h => by cases h⟩

theorem over : Rows.chachaBlocksRow.holds Tryd.pinned (OpenSpec.ofChange Rows.chachaBlocksSpec) :=
  OpenClaim.holds_of_wide 3 Tryd.f3 rfl rfl rfl rfl rfl rfl rfl ⟨rfl, rfl, rfl, rfl, rfl⟩ rfl rfl rfl rfl rfl (by kernel_rfl) Tryd.func3 (by kernel_rfl)
    (of_decide_eq_true (by kernel_rfl)) (by unfold Func.isWrapper; first | (rw [if_pos (by decide +kernel)]; kernel_rfl) | (rw [if_neg (by decide +kernel)]; exact ⟨rfl, rfl⟩))
    (fun os started H enc _ => lifted os started H enc)

theorem proved : Rows.ChachaBlocksCardSaid :=
  Claim7.holds_tied_plain_at .later [] [.data] true Rows.chachaBlocksCard.stood.harness false
    over (fun _ h => by cases h) (by kernel_rfl) (fun _ h => by cases h) chachaBlocks_row_tie rfl ⟨rfl, rfl⟩ (by kernel_rfl) rfl
    (fun f fn hf hfn => by
      obtain rfl : f = 3 := Option.some.inj ((show Tryd.prog.funcNamed Rows.chachaBlocksRow.func = some 3 by kernel_rfl).symm.trans hf) |>.symm
      obtain rfl : fn = Tryd.f3 := (Option.some.inj (Tryd.func3.symm.trans hfn)).symm
      exact ⟨by kernel_rfl, fun j t ht => by
        rw [Tryd.params3] at ht
        have hm := List.mem_of_getElem? (l := [23, 24, 26]) (by simpa using ht)
        simp only [List.mem_cons, List.not_mem_nil, or_false] at hm
        rcases hm with rfl | rfl | rfl
        · exact (show Tryd.prog.wantsStandIn 23 = false by kernel_rfl)
        · exact (show Tryd.prog.wantsStandIn 24 = false by kernel_rfl)
        · exact (show Tryd.prog.wantsStandIn 26 = false by kernel_rfl)⟩)
    (by kernel_rfl)
#print axioms proved
end Go.Proofs.YtnpojhmcgohdlaaDoor.chachaBlocks
