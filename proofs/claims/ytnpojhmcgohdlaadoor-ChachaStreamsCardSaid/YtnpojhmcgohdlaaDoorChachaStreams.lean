/- What is proved: 'ChachaStreams' (law 4) returns true whatever comes in: the stream over any bytes is the document's; twice it is these bytes again; they stay; the arguments read afterwards as before.
   Conditions: none of its own. The table of the quarters reads as the program's text lays it (the card ties it; the translation is a pruned copy of the project). -/
import Derived.Test.YtnpojhmcgohdlaaDoorCards
import Derived.Test.YtnpojhmcgohdlaaDoorTie
import Derived.Test.YtnpojhmcgohdlaaDoorLaidQ
import Derived.Test.YtnpojhmcgohdlaaDoorLoadG
import Derived.Test.YtnpojhmcgohdlaaDoorCAwake
import Derived.Test.YtnpojhmcgohdlaaDoorCXor
import Derived.Test.YtnpojhmcgohdlaaDoorRefXor
import Derived.Test.YtnpojhmcgohdlaaDoorLent
import Derived.Test.YtnpojhmcgohdlaaDoorArrIn
import Derived.Deep.RegionHeld3
import Derived.SevenTiedAt
namespace Go.Proofs.YtnpojhmcgohdlaaDoor.chachaStreams
open Go.ChangeShapes Go.WideShapes Go.ChangeAt Go.ChangeMaps Go.RowKit

/-- What the walk carries along. -/
structure TS (w : World) (KB NB ga : Nat) (kcs ncs : List Value) (v3 : Value) (x3 : List UInt8) (vx : Value) (res : List UInt8) (V : World) : Prop where
  kb : Blk V KB 23 kcs
  nb : Blk V NB 26 ncs
  la : LentAt V ga x3
  rv : Rd V v3 x3
  rx : Rd V vx res
  qs : Qs V
  below : Below w.heap.size w V
section
variable {w : World} {KB NB ga : Nat} {kcs ncs : List Value} {v3 : Value} {x3 : List UInt8} {vx : Value} {res : List UInt8} {V V' : World}
theorem TS.on (h : TS w KB NB ga kcs ncs v3 x3 vx res V) (hb : Below V.heap.size V V') : TS w KB NB ga kcs ncs v3 x3 vx res V' :=
  ⟨h.kb.below hb h.kb.lt, h.nb.below hb h.nb.lt, h.la.below hb, h.rv.below hb, h.rx.below hb, h.qs.below hb, h.below.trans (hb.mono h.below.size)⟩
end

set_option maxRecDepth 100000 in
set_option maxHeartbeats 2000000 in
theorem walk (x0 : List UInt8) (x1 : List UInt8) (a2 : Int) (v3 : Value) (x3 : List UInt8) (w : World) (l0 : x0.length = 32) (l1 : x1.length = 12) (k2 : (Lit.int .u32 a2).wf = true) (k3 : Rd w v3 x3) (hk : Qs w) :
    Calls Tryd.prog 4 #[.agg (x0.map bv).toArray, .agg (x1.map bv).toArray, .int .u32 a2, v3] w fun e w' => e = .returned (.bool true) ∧ Below w.heap.size w w' := by
  have b1 := bounds_u32 k2
  obtain ⟨n, rfl⟩ : ∃ N : Nat, a2 = (N : Int) := ⟨a2.toNat, by omega⟩
  have nI : (n : Int) ≤ 4294967295 := by omega
  have HN : Hid (n < 4294967296) := Lib.hid (by omega)
  have HI32 : Hid ((Tryd.prog.info? 23).map (·.size) = some 32) := by show _ = _; kernel_rfl
  have HI12 : Hid ((Tryd.prog.info? 26).map (·.size) = some 12) := by show _ = _; kernel_rfl
  obtain ⟨kcs, hkc⟩ : ∃ cs, cs = x0.map bv := ⟨_, rfl⟩
  obtain ⟨ncs, hnc⟩ : ∃ cs, cs = x1.map bv := ⟨_, rfl⟩
  rw [← hkc, ← hnc]
  have HKM : Hid (kcs.length = 32) := by show _ = _; rw [hkc, List.length_map, l0]
  have HNM : Hid (ncs.length = 12) := by show _ = _; rw [hnc, List.length_map, l1]
  have HKC := Lib.hid hkc
  have HNC := Lib.hid hnc
  have L0 := Lib.hid l0
  have L1 := Lib.hid l1
  obtain ⟨W1, hW1⟩ : ∃ W : World, W = (w.alloc (.cells kcs.toArray 23)).alloc (.cells ncs.toArray 26) := ⟨_, rfl⟩
  have D1 : Hid (Below w.heap.size w W1) := Lib.hid (by rw [hW1]; exact ((Below.refl _ _).alloc (Nat.le_refl _) _).alloc (by simp) _)
  have K1 : Hid (Blk W1 w.heap.size 23 kcs) := Lib.hid (by rw [hW1]; exact (Blk.made w _ _).alloc _)
  have N1 : Hid (Blk W1 (w.heap.size + 1) 26 ncs) := Lib.hid (by
    have h := Blk.made (w.alloc (.cells kcs.toArray 23)) 26 ncs
    rw [World.size_alloc] at h
    rw [hW1]
    exact h)
  have Q1 := Lib.hid (hk.below D1.out)
  have HX : Hid (∀ W v bs m, m < 4294967296 → Rd W v bs → bs.length ≤ 1000000 → Qs W → Calls Tryd.prog 12 #[.agg kcs.toArray, .agg ncs.toArray, .int .u32 ((m : Nat) : Int), v] W (Own W 5 (chaXor x0 x1 m bs))) := Lib.hid fun W v bs m hm hv hl hq => by
    rw [HKC.out, HNC.out]
    exact cxor_any v x0 x1 bs m W L0.out L1.out hm hv hl hq
  have HA := Lib.hid fun W hW => chaAwake_any W hW
  obtain ⟨A, c, rfl, hc1, hc2, _⟩ := k3.form
  have R1 := Lib.hid (k3.below D1.out)
  clear hkc hnc l0 l1 hk k2 b1 k3
  by_cases hl : x3.length ≤ 300
  · have lI : (x3.length : Int) ≤ 300 := by omega
    have HRX : Hid (∀ W, Rd W (.slice A x3.length c) x3 → Calls Tryd.prog 13 #[.agg kcs.toArray, .agg ncs.toArray, .int .u32 (n : Int), .slice A x3.length c] W (Own W 5 (chaXor x0 x1 n x3))) := Lib.hid fun W hW => by
      rw [HKC.out, HNC.out]
      exact refXor_any _ x0 x1 x3 n W L0.out L1.out HN.out hW (by omega)
    have HLN : Hid (x3.length ≤ 300) := Lib.hid hl
    subst hW1
    clear hl
    go_enter Tryd.func4, Tryd.ntmps4
    go_wp2_with (first
               | refine Go.Great.wpList_boxTo rfl _ _ rfl _ rfl w.heap.size rfl (kcs.toArray) rfl ?_
               | refine Go.Great.wpList_boxTo rfl _ _ rfl _ rfl (w.heap.size + 1) (by simp) (ncs.toArray) rfl ?_)
    refine (lent_any _ x3 _ R1.out (by have := HLN.out; omega)).mono ?_
    rintro e w2 ⟨ga, rfl, la2, hga, hb2⟩
    obtain ⟨KB, hKB⟩ : ∃ B, B = w.heap.size := ⟨_, rfl⟩
    obtain ⟨NB, hNB⟩ : ∃ B, B = w.heap.size + 1 := ⟨_, rfl⟩
    have T2 : TS w KB NB ga kcs ncs (.slice A x3.length c) x3 (.slice A x3.length c) x3 w2 := by
      rw [hKB, hNB]
      exact ⟨K1.out.below hb2 K1.out.lt, N1.out.below hb2 N1.out.lt, la2, R1.out.below hb2, R1.out.below hb2, Q1.out.below hb2, D1.out.trans (hb2.mono D1.out.size)⟩
    have H2 := Lib.hid T2
    rw [← hNB, ← hKB]
    have E1 := Lib.hid hKB
    have E2 := Lib.hid hNB
    clear T2 la2 hb2 hKB hNB K1 N1 R1 Q1 D1
    go_wp2_with (first
                 | refine wpList_load_blk rfl 23 (.tmp 4) rfl KB rfl 23 kcs _ H2.out.kb Tryd.underlying23 rfl (by rw [HKM.out]; exact HI32.out) ?_
                 | refine wpList_load_blk rfl 26 (.tmp 5) rfl NB rfl 26 ncs _ H2.out.nb Tryd.underlying26 rfl (by rw [HNM.out]; exact HI12.out) ?_)
    refine (HX.out _ _ x3 n HN.out (H2.out.la.rd (by have := HLN.out; omega)) (by have := HLN.out; omega) H2.out.qs).mono ?_
    rintro e w3 ⟨vx, rfl, ownx, hb3⟩
    have T3 := H2.out.on hb3
    have H3 : Hid (TS w KB NB ga kcs ncs (.slice A x3.length c) x3 vx (chaXor x0 x1 n x3) w3) := Lib.hid ⟨T3.kb, T3.nb, T3.la, T3.rv, Rd.of_own ownx, T3.qs, T3.below⟩
    clear ownx hb3 T3 H2
    go_wp2_with (first
                 | refine wpList_load_blk rfl 23 (.tmp 4) rfl KB rfl 23 kcs _ H3.out.kb Tryd.underlying23 rfl (by rw [HKM.out]; exact HI32.out) ?_
                 | refine wpList_load_blk rfl 26 (.tmp 5) rfl NB rfl 26 ncs _ H3.out.nb Tryd.underlying26 rfl (by rw [HNM.out]; exact HI12.out) ?_)
    refine (HRX.out _ H3.out.rv).mono ?_
    rintro e w4 ⟨vr, rfl, ownr, hb4⟩
    have H4 := Lib.hid (H3.out.on hb4)
    have R4 := Lib.hid (Rd.of_own ownr)
    clear ownr hb4 H3
    go_wp2_with (fail)
    refine (same_yes _ _ _ _ H4.out.rx R4.out).mono ?_
    rintro e w5 ⟨rfl, n5, hn5⟩
    have H5 : Hid (TS w KB NB ga kcs ncs (.slice A x3.length c) x3 vx (chaXor x0 x1 n x3) w5) := Lib.hid (hn5 ▸ H4.out.on (below_drewN (Below.refl _ _) n5))
    clear hn5 H4 R4
    go_wp2_with (first
                 | refine wpList_load_blk_g 23 (.tmp 4) rfl (by rfl) KB rfl 23 kcs _ H5.out.kb Tryd.underlying23 rfl (by rw [HKM.out]; exact HI32.out) ?_
                 | refine wpList_load_blk_g 26 (.tmp 5) rfl (by rfl) NB rfl 26 ncs _ H5.out.nb Tryd.underlying26 rfl (by rw [HNM.out]; exact HI12.out) ?_)
    refine (HX.out _ _ (chaXor x0 x1 n x3) n HN.out H5.out.rx (by rw [chaXor_length]; have := HLN.out; omega) H5.out.qs).mono ?_
    rintro e w6 ⟨vy, rfl, owny, hb6⟩
    rw [chaXor_twice] at owny
    have H6 := Lib.hid (H5.out.on hb6)
    have R6 := Lib.hid (Rd.of_own owny)
    clear owny hb6 H5
    go_wp2_with (fail)
    refine (same_yes _ _ x3 _ R6.out H6.out.rv).mono ?_
    rintro e w7 ⟨rfl, n7, hn7⟩
    have H7 : Hid (TS w KB NB ga kcs ncs (.slice A x3.length c) x3 vx (chaXor x0 x1 n x3) w7) := Lib.hid (hn7 ▸ H6.out.on (below_drewN (Below.refl _ _) n7))
    clear hn7 H6 R6
    go_wp2_with (fail)
    refine (kept_any ga _ x3 _ H7.out.la H7.out.rv (by have := HLN.out; omega)).mono ?_
    rintro e w8 ⟨rfl, n8, hn8⟩
    have H8 : Hid (TS w KB NB ga kcs ncs (.slice A x3.length c) x3 vx (chaXor x0 x1 n x3) w8) := Lib.hid (hn8 ▸ H7.out.on (below_drewN (Below.refl _ _) n8))
    clear hn8 H7
    go_wp2_with (fail)
    refine (HA.out _ H8.out.qs).mono ?_
    rintro e w9 ⟨rfl, hb9⟩
    have D9 := Lib.hid (H8.out.on hb9).below
    clear hb9 H8
    go_wp2_with (fail)
    go_ret
    exact ⟨rfl, D9.out⟩
  · have lI : (300 : Int) < (x3.length : Int) := by omega
    subst hW1
    clear hl
    go_enter Tryd.func4, Tryd.ntmps4
    go_wp2_with (first
               | refine Go.Great.wpList_boxTo rfl _ _ rfl _ rfl w.heap.size rfl (kcs.toArray) rfl ?_
               | refine Go.Great.wpList_boxTo rfl _ _ rfl _ rfl (w.heap.size + 1) (by simp) (ncs.toArray) rfl ?_)
    refine (HA.out _ Q1.out).mono ?_
    rintro e w2 ⟨rfl, hb2⟩
    have D2 := Lib.hid (D1.out.trans (hb2.mono D1.out.size))
    clear hb2
    go_wp2_with (fail)
    go_ret
    exact ⟨rfl, D2.out⟩

theorem own : ownKnob Tryd.prog.godebug = none := by kernel_rfl
theorem laidOut : laidOutB Tryd.prog = true := by kernel_rfl

set_option maxRecDepth 100000 in
theorem lifted (os : Os) (started : os.Started) (H : Type) (enc : TypeId × Value → H) :
    ReturnsInHanded {} Tryd.checked os 4 .any (fun w args => (Rows.chachaStreamsSpec.pre enc Tryd.prog Tryd.f4 Rows.chachaStreamsRow.domain false w args ∧ laidMetH Tryd.prog quartsLaid w) ∧ sizedMet enc Tryd.prog Tryd.f4 (OpenSpec.ofChange Rows.chachaStreamsSpec) false w args) (Rows.chachaStreamsSpec.post enc Tryd.prog Tryd.f4 false true false false) := by
  refine returnsInHanded_of_change_and (C := Tryd.checked) (X := fun w _ => laidMetH Tryd.prog quartsLaid w) (fun _ _ _ hh h => h.of_heap hh) own started (by kernel_rfl) Tryd.func4
    (ChangeSpec.witness_shaped (enc := enc) (C := Tryd.checked) (os := os) (X := fun w _ => laidMetH Tryd.prog quartsLaid w) false (World.doorLaid Tryd.prog 400 os) #[.agg (List.replicate 32 (Value.int .u8 0)).toArray, .agg (List.replicate 12 (Value.int .u8 0)).toArray, .int .u32 0, .slice none 0 0] 8 rfl (World.shaped_of_RefB (by kernel_rfl) (by kernel_rfl)) (by kernel_rfl) (by kernel_rfl) (by kernel_rfl) (qdoor_met os _)) ?_
  intro W base args ds gs before hval0 hW _ _ hL _
  have hval : ∀ (j : Nat) t v, Tryd.f4.params[j]? = some t → args[j]? = some v → Value.okWide Tryd.prog W .any base t v := hval0
  have hW' := hW
  obtain ⟨p, q, hA0, hV, rfl, hfz, hnd⟩ := hW
  have hA : DataW.TrodAll enc Tryd.prog W 0 (fun _ => true) true Tryd.f4.params.toList args.toList ds p := hA0
  rw [Tryd.params4] at hA hval
  obtain ⟨v0, vs0, dd0, ds0, p0, q0, hargs, rfl, rfl, h0, r0⟩ := trodAll_cons hA
  obtain ⟨v1, vs1, dd1, ds1, p1, q1, rfl, rfl, rfl, h1, r1⟩ := trodAll_cons r0
  obtain ⟨v2, vs2, dd2, ds2, p2, q2, rfl, rfl, rfl, h2, r2⟩ := trodAll_cons r1
  obtain ⟨v3, vs3, dd3, ds3, p3, q3, rfl, rfl, rfl, h3, r3⟩ := trodAll_cons r2
  obtain ⟨rfl, rfl, rfl⟩ := trodAll_nil r3
  obtain rfl : args = #[v0, v1, v2, v3] := by cases args; simp_all
  obtain ⟨rfl, rfl⟩ := trodVars_none hV
  have g0 := h0
  have lt0 : ∀ x ∈ p0, x.block < W.heap.size := by obtain ⟨m, hm⟩ := g0; exact DataW.trod_lt m _ _ _ hm
  obtain ⟨x0, rfl, l0⟩ := bytes_of_arr Tryd.underlying23 Tryd.underlying5 (by kernel_rfl) (by kernel_rfl) (hval 0 23 v0 rfl rfl) h0
  have g1 := h1
  have lt1 : ∀ x ∈ p1, x.block < W.heap.size := by obtain ⟨m, hm⟩ := g1; exact DataW.trod_lt m _ _ _ hm
  obtain ⟨x1, rfl, l1⟩ := bytes_of_arr Tryd.underlying26 Tryd.underlying5 (by kernel_rfl) (by kernel_rfl) (hval 1 26 v1 rfl rfl) h1
  obtain ⟨a2, rfl, rfl, rfl, k2⟩ := open_int Tryd.underlying24 (hval 2 24 v2 rfl rfl) h2
  obtain ⟨A3, n3, c3, rfl⟩ := okWide_slice Tryd.underlying30 (hval 3 30 v3 rfl rfl)
  have g3 := h3
  have lt3 : ∀ x ∈ p3, x.block < W.heap.size := by obtain ⟨m, hm⟩ := g3; exact DataW.trod_lt m _ _ _ hm
  obtain ⟨x3, k3⟩ : ∃ xs, Rd W (.slice A3 n3 c3) xs := by
    obtain ⟨fuel, hf⟩ := h3
    rcases open_ints Tryd.underlying30 Tryd.underlying5 (by kernel_rfl) hf with ⟨hcs, _⟩ | ⟨x, l, c, zs, hcs, _, hl, hm, hz, _, hcell, hwz⟩
    · simp [Value.cells] at hcs
      obtain ⟨rfl, rfl, rfl⟩ := hcs
      exact ⟨[], Rd.nil W⟩
    · simp [Value.cells] at hcs
      obtain ⟨rfl, rfl, rfl⟩ := hcs
      exact rd_of_row hl hm (by simpa using hz) hcell hwz
  clear hA0 hval0
  refine (walk x0 x1 a2 _ x3 W l0 l1 k2 k3 (quarts_of_laid hL)).mono fun e W' ⟨he, bel⟩ => ?_
  subst he
  exact ⟨_, rfl, _, _, _, [], _, [], hW', trodAll_mk1 (shut_bool Tryd.underlying4 _), (trodAll_cons_mk (Below.trod laidOut (by kernel_rfl) (of_decide_eq_true (by kernel_rfl)) g0 bel lt0) (trodAll_cons_mk (Below.trod laidOut (by kernel_rfl) (of_decide_eq_true (by kernel_rfl)) g1 bel lt1) (trodAll_cons_mk (shut_int Tryd.underlying24 k2) (trodAll_cons_mk (Below.trod laidOut (by kernel_rfl) (of_decide_eq_true (by kernel_rfl)) g3 bel lt3) trodAll_mk0)))), rfl, bel.frame _, fun h => by cases h⟩

theorem over : Rows.chachaStreamsRow.holds Tryd.pinned (OpenSpec.ofChange Rows.chachaStreamsSpec) :=
  OpenClaim.holds_of_wide 4 Tryd.f4 rfl rfl rfl rfl rfl rfl rfl ⟨rfl, rfl, rfl, rfl, rfl⟩ rfl rfl rfl rfl rfl (by kernel_rfl) Tryd.func4 (by kernel_rfl)
    (of_decide_eq_true (by kernel_rfl)) (by unfold Func.isWrapper; first | (rw [if_pos (by decide +kernel)]; kernel_rfl) | (rw [if_neg (by decide +kernel)]; exact ⟨rfl, rfl⟩))
    (fun os started H enc _ => lifted os started H enc)

theorem proved : Rows.ChachaStreamsCardSaid :=
  Claim7.holds_tied_plain_at .later [] [.data] true Rows.chachaStreamsCard.stood.harness false
    over (fun _ h => by cases h) (by kernel_rfl) (fun _ h => by cases h) chachaStreams_row_tie rfl ⟨rfl, rfl⟩ (by kernel_rfl) rfl
    (fun f fn hf hfn => by
      obtain rfl : f = 4 := Option.some.inj ((show Tryd.prog.funcNamed Rows.chachaStreamsRow.func = some 4 by kernel_rfl).symm.trans hf) |>.symm
      obtain rfl : fn = Tryd.f4 := (Option.some.inj (Tryd.func4.symm.trans hfn)).symm
      exact ⟨by kernel_rfl, fun j t ht => by
        rw [Tryd.params4] at ht
        have hm := List.mem_of_getElem? (l := [23, 26, 24, 30]) (by simpa using ht)
        simp only [List.mem_cons, List.not_mem_nil, or_false] at hm
        rcases hm with rfl | rfl | rfl | rfl
        · exact (show Tryd.prog.wantsStandIn 23 = false by kernel_rfl)
        · exact (show Tryd.prog.wantsStandIn 26 = false by kernel_rfl)
        · exact (show Tryd.prog.wantsStandIn 24 = false by kernel_rfl)
        · exact (show Tryd.prog.wantsStandIn 30 = false by kernel_rfl)⟩)
    (by kernel_rfl)
#print axioms proved
end Go.Proofs.YtnpojhmcgohdlaaDoor.chachaStreams
