/- What is proved: 'HkdfDerives' (law 3) returns true whatever comes in: a key of any key, by any label and number, is the document's; the arguments read afterwards as before.
   Conditions: none of its own. The table of the rounds reads as the program's text lays it (the card ties it; the translation is a pruned copy of the project). -/
import Derived.Test.YtpjidfcbckndfaaDoorCards
import Derived.Test.YtpjidfcbckndfaaDoorTie
import Derived.Test.YtpjidfcbckndfaaDoorLaid
import Derived.Test.YtpjidfcbckndfaaDoorHkAwake
import Derived.Test.YtpjidfcbckndfaaDoorHDerive
import Derived.Test.YtpjidfcbckndfaaDoorArrAll
import Derived.Test.YtpjidfcbckndfaaDoorArrIn
import Derived.Deep.RegionHeld3
import Derived.SevenTiedAt
namespace Go.Proofs.YtpjidfcbckndfaaDoor.hkdfDerives
open Go.ChangeShapes Go.WideShapes Go.ChangeAt Go.ChangeMaps Go.RowKit

/-- What the last statement leans on. -/
structure TD (w : World) (B : Nat) (kcs : List Value) (V : World) : Prop where
  blk : Blk V B 35 kcs
  salts : Salts V
  below : Below w.heap.size w V
section
variable {w : World} {B : Nat} {kcs : List Value} {V V' : World}
theorem TD.on (h : TD w B kcs V) (hb : Below V.heap.size V V') : TD w B kcs V' :=
  ⟨h.blk.below hb h.blk.lt, h.salts.below hb, h.below.trans (hb.mono h.below.size)⟩
theorem TD.drew (h : TD w B kcs V) : TD w B kcs V.drew := h.on (Below.refl _ _).drew
theorem TD.alloc (h : TD w B kcs V) (o : Obj) : TD w B kcs (V.alloc o) := h.on ((Below.refl _ _).alloc (Nat.le_refl _) o)
theorem Blk.range {V : World} {B : Nat} {t : TypeId} {cs : List Value} (h : Blk V B t cs) : V.rangeAt B 0 cs := fun j v hv => by
  rw [Nat.zero_add, h.cell j]
  exact hv
end

set_option maxRecDepth 100000 in
set_option maxHeartbeats 1000000 in
theorem walk (x0 : List UInt8) (a1 : ByteArray) (a2 : Int) (w : World) (l0 : x0.length = 32) (k1 : a1.size ≤ maxLen) (k2 : (Lit.int .u64 a2).wf = true) (hk : Salts w) :
    Calls Tryd.prog 5 #[.agg (x0.map bv).toArray, .string a1, .int .u64 a2] w fun e w' => e = .returned (.bool true) ∧ Below w.heap.size w w' := by
  obtain ⟨i0, hi, hz0, hz1, hz2⟩ := info_parts info_u8
  have b2 := bounds_u64 k2
  obtain ⟨N, rfl⟩ : ∃ N : Nat, a2 = (N : Int) := ⟨a2.toNat, by omega⟩
  have HA := Lib.hid fun W hW => hkdfAwake_any W hW
  unfold maxLen at k1
  obtain ⟨kcs, hkcs⟩ : ∃ cs, cs = x0.map bv := ⟨_, rfl⟩
  rw [← hkcs]
  have kl : kcs.length = 32 := by rw [hkcs, List.length_map, l0]
  have S0 : Hid (TD w w.heap.size kcs (w.alloc (.cells kcs.toArray 35))) := Lib.hid ⟨Blk.made w _ _, hk.alloc _, (Below.refl _ _).alloc (Nat.le_refl _) _⟩
  have HKC := Lib.hid hkcs
  have HL0 := Lib.hid l0
  clear hk k2 hkcs l0
  by_cases hl : a1.size ≤ 100
  · have lI : (a1.size : Int) ≤ 100 := by omega
    obtain ⟨cs, hcs⟩ : ∃ cs, cs = (derB x0 a1.data.toList N).map bv := ⟨_, rfl⟩
    have HI : Hid ((Tryd.prog.info? 35).map (·.size) = some 32) := by show _ = _; kernel_rfl
    have hsi : (Tryd.prog.info? 35).map (·.size) = some kcs.length := by rw [kl]; exact HI.out
    have hu := Tryd.underlying35
    have hx : ∀ W, (Op.equalIn 10000 35 (.agg cs.toArray) (.agg cs.toArray)).run Tryd.prog W = .ok true W := fun W => by
      have h := run_equal_bytes W 35 5 32 i0 Tryd.underlying35 Tryd.underlying5 hi hz1 (derB x0 a1.data.toList N) (derB x0 a1.data.toList N) (derB_length _ _ _) (derB_length _ _ _)
      rw [← hcs] at h
      simpa [Op.equal, Op.maxDepth] using h
    have C3 : Hid (∀ V, TD w w.heap.size kcs V → Calls Tryd.prog 15 #[.agg kcs.toArray, .string a1, .int .u64 (N : Int)] V fun e V' => e = .returned (.agg cs.toArray) ∧ TD w w.heap.size kcs V') := Lib.hid fun V hV => by
      rw [HKC.out, hcs]
      exact (derive_any x0 a1 N V HL0.out (by omega) (by omega) hV.salts).mono fun e V' ⟨he, hb⟩ => ⟨he, HKC.out ▸ hV.on hb⟩
    have C7 : Hid (∀ V, TD w w.heap.size kcs V → Calls Tryd.prog 16 #[.agg kcs.toArray, .string a1, .int .u64 (N : Int)] V fun e V' => e = .returned (.agg cs.toArray) ∧ TD w w.heap.size kcs V') := Lib.hid fun V hV => by
      rw [HKC.out, hcs]
      exact (refDerive_any x0 a1 N V HL0.out (by omega) (by omega)).mono fun e V' ⟨he, hb⟩ => ⟨he, HKC.out ▸ hV.on hb⟩
    have C10 : Hid (∀ V, TD w w.heap.size kcs V → Calls Tryd.prog 6 #[] V fun e V' => e = .returned (.bool true) ∧ TD w w.heap.size kcs V') := Lib.hid fun V hV => (hkdfAwake_any V hV.salts).mono fun e V' ⟨he, hb⟩ => ⟨he, hV.on hb⟩
    obtain ⟨B, hB⟩ : ∃ B, B = w.heap.size := ⟨_, rfl⟩
    rw [← hB] at S0 C3 C7 C10
    have HB := Lib.hid hB
    have HCS := Lib.hid hcs
    obtain ⟨W, hW⟩ : ∃ W : World, W = w.alloc (.cells kcs.toArray 35) := ⟨_, rfl⟩
    rw [← hW] at S0
    have HW := Lib.hid hW
    clear hcs hB hl hW
    go_enter Tryd.func5, Tryd.ntmps5
    go_wp2_with (refine Go.Great.wpList_boxTo rfl _ _ rfl _ rfl w.heap.size rfl kcs.toArray rfl ?_
                 rw [← HB.out, ← HW.out])
    have hS0 := S0.out
    refine wp_region_held_drew (S := (TD w B kcs)) (by kernel_rfl) ?_ (fun hHeld => ?_)
    · (first | assumption | exact TD.drew (by assumption) | exact TD.alloc (by assumption) _ | exact TD.drew (TD.alloc (by assumption) _))
    refine take_put (i := 0) (oi := _) (v := _) 11 rfl rfl (by kernel_rfl) (by kernel_rfl) (by kernel_rfl) (fun _ _ _ h => h) (yieldsIf_load_mid (by rfl) _ _ rfl B 0 rfl kcs _ (fun _ h => Blk.range h.blk) hu rfl hsi) (by assumption) ?_
    simp only [List.set_cons_zero, List.set_cons_succ]
    refine take_put (i := 1) (oi := _) (v := ?_) 12 rfl rfl (by kernel_rfl) (by kernel_rfl) (by kernel_rfl) (fun _ _ _ h => h) (Or.inl ⟨by rfl, ?hy1⟩) (by assumption) ?_
    case hy1 => ((intro W hSw); (try dsimp only at hSw); go_simp; try (with_reducible rfl))
    simp only [List.set_cons_zero, List.set_cons_succ]
    refine take_put (i := 2) (oi := _) (v := ?_) 13 rfl rfl (by kernel_rfl) (by kernel_rfl) (by kernel_rfl) (fun _ _ _ h => h) (Or.inl ⟨by rfl, ?hy2⟩) (by assumption) ?_
    case hy2 => ((intro W hSw); (try dsimp only at hSw); go_simp; try (with_reducible rfl))
    simp only [List.set_cons_zero, List.set_cons_succ]
    refine take_put (i := 4) (oi := _) (v := _) 15 rfl rfl (by kernel_rfl) (by kernel_rfl) (by kernel_rfl) (fun _ _ _ h => h) (yieldsIf_load_mid (by rfl) _ _ rfl B 0 rfl kcs _ (fun _ h => Blk.range h.blk) hu rfl hsi) (by assumption) ?_
    simp only [List.set_cons_zero, List.set_cons_succ]
    refine take_put (i := 5) (oi := _) (v := ?_) 16 rfl rfl (by kernel_rfl) (by kernel_rfl) (by kernel_rfl) (fun _ _ _ h => h) (Or.inl ⟨by rfl, ?hy5⟩) (by assumption) ?_
    case hy5 => ((intro W hSw); (try dsimp only at hSw); go_simp; try (with_reducible rfl))
    simp only [List.set_cons_zero, List.set_cons_succ]
    refine take_put (i := 6) (oi := _) (v := ?_) 17 rfl rfl (by kernel_rfl) (by kernel_rfl) (by kernel_rfl) (fun _ _ _ h => h) (Or.inl ⟨by rfl, ?hy6⟩) (by assumption) ?_
    case hy6 => ((intro W hSw); (try dsimp only at hSw); go_simp; try (with_reducible rfl))
    simp only [List.set_cons_zero, List.set_cons_succ]
    refine wpAnyH_ready (rs := [3]) (by kernel_rfl) (by simp) ?_
    refine AllReadyH.cons (o := _) rfl (fun K hK => ?_) AllReadyH.nil
    go_simp
    (with_reducible refine (C3.out _ ?_).mono ?_; (first | assumption | exact TD.drew (by assumption)); rintro e r1 ⟨rfl, sv1⟩)
    refine hK.out _ _ ?_ (fun hHeld => ?_)
    · (first | assumption | exact TD.drew (by assumption) | exact TD.alloc (by assumption) _ | exact TD.drew (TD.alloc (by assumption) _))
    clear hK K
    try simp only [Act.put, List.setIfInBounds_toArray, List.set_cons_zero, List.set_cons_succ]
    refine wpAnyH_ready (rs := [7]) (by kernel_rfl) (by simp) ?_
    refine AllReadyH.cons (o := _) rfl (fun K hK => ?_) AllReadyH.nil
    go_simp
    (with_reducible refine (C7.out _ ?_).mono ?_; (first | assumption | exact TD.drew (by assumption)); rintro e r2 ⟨rfl, sv2⟩)
    refine hK.out _ _ ?_ (fun hHeld => ?_)
    · (first | assumption | exact TD.drew (by assumption) | exact TD.alloc (by assumption) _ | exact TD.drew (TD.alloc (by assumption) _))
    clear hK K
    try simp only [Act.put, List.setIfInBounds_toArray, List.set_cons_zero, List.set_cons_succ]
    refine take_put (i := 8) (oi := _) (v := ?_) 19 rfl rfl (by kernel_rfl) (by kernel_rfl) (by kernel_rfl) (fun _ _ _ h => h) (Or.inl ⟨by rfl, ?hy8⟩) (by assumption) ?_
    case hy8 => ((intro W hSw); (try dsimp only at hSw); go_simp; try (with_reducible rfl))
    simp only [List.set_cons_zero, List.set_cons_succ]
    refine take_put (i := 9) (oi := _) (v := ?_) 20 rfl rfl (by kernel_rfl) (by kernel_rfl) (by kernel_rfl) (fun _ _ _ h => h) (Or.inl ⟨by rfl, ?hy9⟩) (by assumption) ?_
    case hy9 => ((intro W hSw); (try dsimp only at hSw); go_simp; try (with_reducible rfl))
    simp only [List.set_cons_zero, List.set_cons_succ]
    refine wpAnyH_ready (rs := [10]) (by kernel_rfl) (by simp) ?_
    refine AllReadyH.cons (o := _) rfl (fun K hK => ?_) AllReadyH.nil
    go_simp
    (with_reducible refine (C10.out _ ?_).mono ?_; (first | assumption | exact TD.drew (by assumption)); rintro e r9 ⟨rfl, sv9⟩)
    refine hK.out _ _ ?_ (fun hHeld => ?_)
    · (first | assumption | exact TD.drew (by assumption) | exact TD.alloc (by assumption) _ | exact TD.drew (TD.alloc (by assumption) _))
    clear hK K
    try simp only [Act.put, List.setIfInBounds_toArray, List.set_cons_zero, List.set_cons_succ]
    refine take_put (i := 11) (oi := _) (v := ?_) 22 rfl rfl (by kernel_rfl) (by kernel_rfl) (by kernel_rfl) (fun _ _ _ h => h) (Or.inl ⟨by rfl, ?hy11⟩) (by assumption) ?_
    case hy11 => ((intro W hSw); (try dsimp only at hSw); go_simp; try (with_reducible rfl))
    simp only [List.set_cons_zero, List.set_cons_succ]
    refine take_put (i := 12) (oi := _) (v := ?_) 6 rfl rfl (by kernel_rfl) (by kernel_rfl) (by kernel_rfl) (fun _ _ _ h => h) (Or.inl ⟨by rfl, ?hy12⟩) (by assumption) ?_
    case hy12 => ((intro W hSw); (try dsimp only at hSw); go_simp; try (with_reducible rfl))
    simp only [List.set_cons_zero, List.set_cons_succ]
    refine wpAnyH_done (by kernel_rfl) ?_ _
    go_wp2_with (fail)
    go_ret
    exact ⟨rfl, hHeld.below⟩
  · have lI : (100 : Int) < (a1.size : Int) := by omega
    clear hl
    go_enter Tryd.func5, Tryd.ntmps5
    go_wp2_with (refine Go.Great.wpList_boxTo rfl _ _ rfl _ rfl w.heap.size rfl kcs.toArray rfl ?_)
    refine (HA.out _ S0.out.salts).mono ?_
    rintro e w1 ⟨rfl, hb⟩
    have D := Lib.hid (S0.out.below.trans (hb.mono S0.out.below.size))
    clear hb
    go_wp2_with (fail)
    go_ret
    exact ⟨rfl, D.out⟩

theorem own : ownKnob Tryd.prog.godebug = none := by kernel_rfl
theorem laidOut : laidOutB Tryd.prog = true := by kernel_rfl

set_option maxRecDepth 100000 in
theorem lifted (os : Os) (started : os.Started) (H : Type) (enc : TypeId × Value → H) :
    ReturnsInHanded {} Tryd.checked os 5 .any (fun w args => (Rows.hkdfDerivesSpec.pre enc Tryd.prog Tryd.f5 Rows.hkdfDerivesRow.domain false w args ∧ laidMetH Tryd.prog saltsLaid w) ∧ sizedMet enc Tryd.prog Tryd.f5 (OpenSpec.ofChange Rows.hkdfDerivesSpec) false w args) (Rows.hkdfDerivesSpec.post enc Tryd.prog Tryd.f5 false true false false) := by
  refine returnsInHanded_of_change_and (C := Tryd.checked) (X := fun w _ => laidMetH Tryd.prog saltsLaid w) (fun _ _ _ hh h => h.of_heap hh) own started (by kernel_rfl) Tryd.func5
    (ChangeSpec.witness_shaped (enc := enc) (C := Tryd.checked) (os := os) (X := fun w _ => laidMetH Tryd.prog saltsLaid w) false (World.doorLaid Tryd.prog 400 os) #[.agg (List.replicate 32 (Value.int .u8 0)).toArray, .string ByteArray.empty, .int .u64 0] 8 rfl (World.shaped_of_RefB (by kernel_rfl) (by kernel_rfl)) (by kernel_rfl) (by kernel_rfl) (by kernel_rfl) (door_met os _)) ?_
  intro W base args ds gs before hval0 hW _ _ hL _
  have hval : ∀ (j : Nat) t v, Tryd.f5.params[j]? = some t → args[j]? = some v → Value.okWide Tryd.prog W .any base t v := hval0
  have hW' := hW
  obtain ⟨p, q, hA0, hV, rfl, hfz, hnd⟩ := hW
  have hA : DataW.TrodAll enc Tryd.prog W 0 (fun _ => true) true Tryd.f5.params.toList args.toList ds p := hA0
  rw [Tryd.params5] at hA hval
  obtain ⟨v0, vs0, dd0, ds0, p0, q0, hargs, rfl, rfl, h0, r0⟩ := trodAll_cons hA
  obtain ⟨v1, vs1, dd1, ds1, p1, q1, rfl, rfl, rfl, h1, r1⟩ := trodAll_cons r0
  obtain ⟨v2, vs2, dd2, ds2, p2, q2, rfl, rfl, rfl, h2, r2⟩ := trodAll_cons r1
  obtain ⟨rfl, rfl, rfl⟩ := trodAll_nil r2
  obtain rfl : args = #[v0, v1, v2] := by cases args; simp_all
  obtain ⟨rfl, rfl⟩ := trodVars_none hV
  have g0 := h0
  have lt0 : ∀ x ∈ p0, x.block < W.heap.size := by obtain ⟨m, hm⟩ := g0; exact DataW.trod_lt m _ _ _ hm
  obtain ⟨x0, rfl, l0⟩ := bytes_of_arr Tryd.underlying35 Tryd.underlying5 (by kernel_rfl) (by kernel_rfl) (hval 0 35 v0 rfl rfl) h0
  obtain ⟨a1, rfl, rfl, rfl, k1⟩ := open_string Tryd.underlying9 (hval 1 9 v1 rfl rfl) h1
  obtain ⟨a2, rfl, rfl, rfl, k2⟩ := open_int Tryd.underlying36 (hval 2 36 v2 rfl rfl) h2
  clear hA0 hval0
  refine (walk x0 a1 a2 W l0 k1 k2 (salts_of_laid hL)).mono fun e W' ⟨he, bel⟩ => ?_
  subst he
  exact ⟨_, rfl, _, _, _, [], _, [], hW', trodAll_mk1 (shut_bool Tryd.underlying4 _), (trodAll_cons_mk (Below.trod laidOut (by kernel_rfl) (of_decide_eq_true (by kernel_rfl)) g0 bel lt0) (trodAll_cons_mk (shut_string Tryd.underlying9 k1) (trodAll_cons_mk (shut_int Tryd.underlying36 k2) trodAll_mk0))), rfl, bel.frame _, fun h => by cases h⟩

theorem over : Rows.hkdfDerivesRow.holds Tryd.pinned (OpenSpec.ofChange Rows.hkdfDerivesSpec) :=
  OpenClaim.holds_of_wide 5 Tryd.f5 rfl rfl rfl rfl rfl rfl rfl ⟨rfl, rfl, rfl, rfl, rfl⟩ rfl rfl rfl rfl rfl (by kernel_rfl) Tryd.func5 (by kernel_rfl)
    (of_decide_eq_true (by kernel_rfl)) (by unfold Func.isWrapper; first | (rw [if_pos (by decide +kernel)]; kernel_rfl) | (rw [if_neg (by decide +kernel)]; exact ⟨rfl, rfl⟩))
    (fun os started H enc _ => lifted os started H enc)

theorem proved : Rows.HkdfDerivesCardSaid :=
  Claim7.holds_tied_plain_at .later [] [.data] true Rows.hkdfDerivesCard.stood.harness false
    over (fun _ h => by cases h) (by kernel_rfl) (fun _ h => by cases h) hkdfDerives_row_tie rfl ⟨rfl, rfl⟩ (by kernel_rfl) rfl
    (fun f fn hf hfn => by
      obtain rfl : f = 5 := Option.some.inj ((show Tryd.prog.funcNamed Rows.hkdfDerivesRow.func = some 5 by kernel_rfl).symm.trans hf) |>.symm
      obtain rfl : fn = Tryd.f5 := (Option.some.inj (Tryd.func5.symm.trans hfn)).symm
      exact ⟨by kernel_rfl, fun j t ht => by
        rw [Tryd.params5] at ht
        have hm := List.mem_of_getElem? (l := [35, 9, 36]) (by simpa using ht)
        simp only [List.mem_cons, List.not_mem_nil, or_false] at hm
        rcases hm with rfl | rfl | rfl
        · exact (show Tryd.prog.wantsStandIn 35 = false by kernel_rfl)
        · exact (show Tryd.prog.wantsStandIn 9 = false by kernel_rfl)
        · exact (show Tryd.prog.wantsStandIn 36 = false by kernel_rfl)⟩)
    (by kernel_rfl)
#print axioms proved
end Go.Proofs.YtpjidfcbckndfaaDoor.hkdfDerives
