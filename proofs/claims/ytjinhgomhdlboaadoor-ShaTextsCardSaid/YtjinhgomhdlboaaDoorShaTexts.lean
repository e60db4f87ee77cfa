/- What is proved: 'ShaTexts' (law 2) returns true whatever comes in: any bytes have the digits of base 16 that the document says, any text is the bytes whose digits it is, or none, and what is written is read; the arguments read afterwards as before.
   Conditions: none of its own. The table of the rounds reads as the program's text lays it (the card ties it; the translation is a pruned copy of the project). -/
import Derived.Test.YtjinhgomhdlboaaDoorCards
import Derived.Test.YtjinhgomhdlboaaDoorTie
import Derived.Test.YtjinhgomhdlboaaDoorLaid
import Derived.Test.YtjinhgomhdlboaaDoorShaAwake
import Derived.Test.YtjinhgomhdlboaaDoorLent
import Derived.Deep.RegionHeld3
import Derived.SevenTiedAt
namespace Go.Proofs.YtjinhgomhdlboaaDoor.shaTexts
open Go.ChangeShapes Go.WideShapes Go.ChangeAt Go.ChangeMaps Go.RowKit

theorem unD_hexD {m : Nat} (h : m < 16) : unD (hexD m).toNat = some m := by
  have h : ∀ k : Fin 16, unD (hexD k.val).toNat = some k.val := by decide
  exact h ⟨m, by assumption⟩
theorem unhex_hex : ∀ (xs : List UInt8), unhexB (hexB xs) = some xs
  | [] => rfl
  | x :: r => by
    have hx := x.toNat_lt
    rw [hexB, unhexB, unD_hexD (by omega), unD_hexD (by omega), unhex_hex r]
    have e : UInt8.ofNat (x.toNat / 16 * 16 + x.toNat % 16) = x := by
      rw [show x.toNat / 16 * 16 + x.toNat % 16 = x.toNat by omega]
      simp
    simp only [Option.map_some, e]
/-- What the last statement leans on. -/
structure TS (w : World) (v0 vx vw vy : Value) (x0 xx : List UInt8) (V : World) : Prop where
  b : Rd V v0 x0
  x : Rd V vx xx
  want : Rd V vw xx
  y : Rd V vy x0
  salts : Salts V
  below : Below w.heap.size w V
theorem TS.on {w : World} {v0 vx vw vy : Value} {x0 xx : List UInt8} {V V' : World} (h : TS w v0 vx vw vy x0 xx V) (hb : Below V.heap.size V V') : TS w v0 vx vw vy x0 xx V' :=
  ⟨h.b.below hb, h.x.below hb, h.want.below hb, h.y.below hb, h.salts.below hb, h.below.trans (hb.mono h.below.size)⟩
theorem TS.drewN {w : World} {v0 vx vw vy : Value} {x0 xx : List UInt8} {V : World} (h : TS w v0 vx vw vy x0 xx V) (n : Nat) : TS w v0 vx vw vy x0 xx (V.drewN n) :=
  h.on (below_drewN (Below.refl _ _) n)
theorem TS.drew {w : World} {v0 vx vw vy : Value} {x0 xx : List UInt8} {V : World} (h : TS w v0 vx vw vy x0 xx V) : TS w v0 vx vw vy x0 xx V.drew :=
  h.on (Below.refl _ _).drew

set_option maxRecDepth 100000 in
set_option maxHeartbeats 1000000 in
theorem walk_end (v0 : Value) (x0 xx : List UInt8) (s : ByteArray) (err : Int) (w : World) (hl : x0.length ≤ 1000) (hs : s.size ≤ 1000) (h0 : Rd w v0 x0) (hk : Salts w)
    (H1 : Hid (∀ V, Salts V → Calls Tryd.prog 14 #[.string s] V fun e V' => Below V.heap.size V V' ∧ ∃ u, e = .returned (.tuple #[u, .int .i64 err]) ∧ Rd V' u xx))
    (H2 : Hid (∀ V, Salts V → Calls Tryd.prog 15 #[.string s] V fun e V' => Below V.heap.size V V' ∧ ∃ u, e = .returned (.tuple #[u, .int .i64 err]) ∧ Rd V' u xx)) :
    Calls Tryd.prog 4 #[v0, .string s] w fun e w' => e = .returned (.bool true) ∧ Below w.heap.size w w' := by
  obtain ⟨A, c, rfl, hc1, hc2, _⟩ := h0.form
  unfold maxLen at hc2
  have HR := Lib.hid h0
  have HK := Lib.hid hk
  have lI : (x0.length : Int) ≤ 1000 := by omega
  have sI : (s.size : Int) ≤ 1000 := by omega
  clear h0 hk hc1
  go_enter Tryd.func4, Tryd.ntmps4
  go_wp2_with (fail)
  refine (shaHex_any _ x0 _ HR.out (by omega)).mono ?_
  rintro e w1 ⟨rfl, hb1⟩
  have HK1 := Lib.hid (HK.out.below hb1)
  have D1 := Lib.hid hb1
  clear hb1
  go_wp2_with (fail)
  refine (H1.out _ HK1.out).mono ?_
  rintro e w2 ⟨hb2, u2, rfl, r2⟩
  have HK2 := Lib.hid (HK1.out.below hb2)
  have D2 := Lib.hid (D1.out.trans (hb2.mono D1.out.size))
  have R2 := Lib.hid r2
  clear hb2 r2
  go_wp2_with (fail)
  refine (H2.out _ HK2.out).mono ?_
  rintro e w3 ⟨hb3, u3, rfl, r3⟩
  have HK3 := Lib.hid (HK2.out.below hb3)
  have D3 := Lib.hid (D2.out.trans (hb3.mono D2.out.size))
  have R23 := Lib.hid (R2.out.below hb3)
  have R3 := Lib.hid r3
  clear hb3 r3
  go_wp2_with (fail)
  have hlen : (⟨(hexB x0).toArray⟩ : ByteArray).size ≤ 1000000 := by
    show (hexB x0).toArray.size ≤ 1000000
    simp [hexB_length]
    omega
  have hun := shaUnhex_any ⟨(hexB x0).toArray⟩ w3 hlen
  rw [show (⟨(hexB x0).toArray⟩ : ByteArray).data.toList = hexB x0 from rfl, unhex_hex] at hun
  refine hun.mono ?_
  rintro e w4 ⟨hb4, u4, rfl, r4⟩
  have TS0 : TS w (.slice A x0.length c) u2 u3 u4 x0 xx w4 := ⟨(HR.out.below D3.out).below hb4, R23.out.below hb4, R3.out.below hb4, r4, HK3.out.below hb4, D3.out.trans (hb4.mono D3.out.size)⟩
  clear hb4 r4 hun hlen
  obtain ⟨H, hH⟩ : ∃ H : ByteArray, H = ⟨(hexB x0).toArray⟩ := ⟨_, rfl⟩
  rw [← hH]
  have C1 : Hid (∀ V, TS w (.slice A x0.length c) u2 u3 u4 x0 xx V → Calls Tryd.prog 16 #[.slice A x0.length c] V fun e V' => e = .returned (.string H) ∧ TS w (.slice A x0.length c) u2 u3 u4 x0 xx V') := fun V hV => (refHex_any _ x0 V hV.b (by omega)).mono fun e V' ⟨he, n, hn⟩ => ⟨by rw [he, hH], hn ▸ hV.drewN n⟩
  have C2 : Hid (∀ V, TS w (.slice A x0.length c) u2 u3 u4 x0 xx V → Calls Tryd.prog 17 #[u2, u3] V fun e V' => e = .returned (.bool true) ∧ TS w (.slice A x0.length c) u2 u3 u4 x0 xx V') := fun V hV => (same_yes _ _ xx V hV.x hV.want).mono fun e V' ⟨he, n, hn⟩ => ⟨he, hn ▸ hV.drewN n⟩
  have C3 : Hid (∀ V, TS w (.slice A x0.length c) u2 u3 u4 x0 xx V → Calls Tryd.prog 17 #[u4, .slice A x0.length c] V fun e V' => e = .returned (.bool true) ∧ TS w (.slice A x0.length c) u2 u3 u4 x0 xx V') := fun V hV => (same_yes _ _ x0 V hV.y hV.b).mono fun e V' ⟨he, n, hn⟩ => ⟨he, hn ▸ hV.drewN n⟩
  have C4 : Hid (∀ V, TS w (.slice A x0.length c) u2 u3 u4 x0 xx V → Calls Tryd.prog 5 #[] V fun e V' => e = .returned (.bool true) ∧ TS w (.slice A x0.length c) u2 u3 u4 x0 xx V') := fun V hV => (shaAwake_any V hV.salts).mono fun e V' ⟨he, hb⟩ => ⟨he, hV.on hb⟩
  clear hH
  go_wp2_with (first
      | (go_at_call 16; refine (C1.out _ ?_).mono ?_; assumption; rintro e v1 ⟨rfl, s1⟩)
      | (go_at_call_of 17 u2; refine (C2.out _ ?_).mono ?_; assumption; rintro e v2 ⟨rfl, s2⟩)
      | (go_at_call_of 17 u4; refine (C3.out _ ?_).mono ?_; assumption; rintro e v3 ⟨rfl, s3⟩)
      | (go_at_call 5; refine (C4.out _ ?_).mono ?_; assumption; rintro e v4 ⟨rfl, s4⟩))
  go_ret
  exact ⟨rfl, s4.below⟩

set_option maxRecDepth 100000 in
set_option maxHeartbeats 400000 in
theorem walk (v0 : Value) (x0 : List UInt8) (s : ByteArray) (w : World) (h0 : Rd w v0 x0) (_hs : s.size ≤ maxLen) (hk : Salts w) :
    Calls Tryd.prog 4 #[v0, .string s] w fun e w' => e = .returned (.bool true) ∧ Below w.heap.size w w' := by
  by_cases hl : x0.length ≤ 1000
  · by_cases hs : s.size ≤ 1000
    · rcases hu : unhexB s.data.toList with _ | xx
      · refine walk_end v0 x0 [] s 4 w hl hs h0 hk (Lib.hid fun V hV => ?_) (Lib.hid fun V hV => ?_)
        · have h := shaUnhex_any s V (by omega)
          rw [hu] at h
          exact h.mono fun e V' ⟨hb, he⟩ => ⟨hb, _, he, Rd.nil _⟩
        · have h := refUnhex_any s V (by omega)
          rw [hu] at h
          exact h.mono fun e V' ⟨hb, he⟩ => ⟨hb, _, he, Rd.nil _⟩
      · refine walk_end v0 x0 xx s 0 w hl hs h0 hk (Lib.hid fun V hV => ?_) (Lib.hid fun V hV => ?_)
        · have h := shaUnhex_any s V (by omega)
          rw [hu] at h
          exact h.mono fun e V' ⟨hb, u, he, hr⟩ => ⟨hb, u, he, hr⟩
        · have h := refUnhex_any s V (by omega)
          rw [hu] at h
          exact h.mono fun e V' ⟨hb, u, he, hr⟩ => ⟨hb, u, he, hr⟩
    · obtain ⟨A, c, rfl, hc1, hc2, _⟩ := h0.form
      unfold maxLen at hc2
      have HA := Lib.hid fun W hW => shaAwake_any W hW
      have HK := Lib.hid hk
      have lI : (x0.length : Int) ≤ 1000 := by omega
      have sI : (1000 : Int) < (s.size : Int) := by omega
      clear h0 hk hl hs
      go_enter Tryd.func4, Tryd.ntmps4
      go_wp2_with (fail)
      all_goals
        refine (HA.out _ HK.out).mono ?_
        rintro e w1 ⟨rfl, hb⟩
        go_wp2_with (fail)
        go_ret
        exact ⟨rfl, hb⟩
  · obtain ⟨A, c, rfl, hc1, hc2, _⟩ := h0.form
    unfold maxLen at hc2
    have HA := Lib.hid fun W hW => shaAwake_any W hW
    have HK := Lib.hid hk
    have lI : (1000 : Int) < (x0.length : Int) := by omega
    clear h0 hk hl
    go_enter Tryd.func4, Tryd.ntmps4
    go_wp2_with (fail)
    refine (HA.out _ HK.out).mono ?_
    rintro e w1 ⟨rfl, hb⟩
    go_wp2_with (fail)
    go_ret
    exact ⟨rfl, hb⟩

theorem own : ownKnob Tryd.prog.godebug = none := by kernel_rfl
theorem laidOut : laidOutB Tryd.prog = true := by kernel_rfl

set_option maxRecDepth 100000 in
theorem lifted (os : Os) (started : os.Started) (H : Type) (enc : TypeId × Value → H) :
    ReturnsInHanded {} Tryd.checked os 4 .any (fun w args => (Rows.shaTextsSpec.pre enc Tryd.prog Tryd.f4 Rows.shaTextsRow.domain false w args ∧ laidMetH Tryd.prog saltsLaid w) ∧ sizedMet enc Tryd.prog Tryd.f4 (OpenSpec.ofChange Rows.shaTextsSpec) false w args) (Rows.shaTextsSpec.post enc Tryd.prog Tryd.f4 false true false false) := by
  refine returnsInHanded_of_change_and (C := Tryd.checked) (X := fun w _ => laidMetH Tryd.prog saltsLaid w) (fun _ _ _ hh h => h.of_heap hh) own started (by kernel_rfl) Tryd.func4
    (ChangeSpec.witness_shaped (enc := enc) (C := Tryd.checked) (os := os) (X := fun w _ => laidMetH Tryd.prog saltsLaid w) false (World.doorLaid Tryd.prog 400 os) #[.slice none 0 0, .string ByteArray.empty] 8 rfl (World.shaped_of_RefB (by kernel_rfl) (by kernel_rfl)) (by kernel_rfl) (by kernel_rfl) (by kernel_rfl) (door_met os _)) ?_
  intro W base args ds gs before hval0 hW _ _ hL _
  have hval : ∀ (j : Nat) t v, Tryd.f4.params[j]? = some t → args[j]? = some v → Value.okWide Tryd.prog W .any base t v := hval0
  have hW' := hW
  obtain ⟨p, q, hA0, hV, rfl, hfz, hnd⟩ := hW
  have hA : DataW.TrodAll enc Tryd.prog W 0 (fun _ => true) true Tryd.f4.params.toList args.toList ds p := hA0
  rw [Tryd.params4] at hA hval
  obtain ⟨v0, vs0, dd0, ds0, p0, q0, hargs, rfl, rfl, h0, r0⟩ := trodAll_cons hA
  obtain ⟨v1, vs1, dd1, ds1, p1, q1, rfl, rfl, rfl, h1, r1⟩ := trodAll_cons r0
  obtain ⟨rfl, rfl, rfl⟩ := trodAll_nil r1
  obtain rfl : args = #[v0, v1] := by cases args; simp_all
  obtain ⟨rfl, rfl⟩ := trodVars_none hV
  obtain ⟨A0, n0, c0, rfl⟩ := okWide_slice Tryd.underlying22 (hval 0 22 v0 rfl rfl)
  have g0 := h0
  have lt0 : ∀ x ∈ p0, x.block < W.heap.size := by obtain ⟨m, hm⟩ := g0; exact DataW.trod_lt m _ _ _ hm
  obtain ⟨x0, k0⟩ : ∃ xs, Rd W (.slice A0 n0 c0) xs := by
    obtain ⟨fuel, hf⟩ := h0
    rcases open_ints Tryd.underlying22 Tryd.underlying5 (by kernel_rfl) hf with ⟨hcs, _⟩ | ⟨x, l, c, zs, hcs, _, hl, hm, hz, _, hcell, hwz⟩
    · simp [Value.cells] at hcs
      obtain ⟨rfl, rfl, rfl⟩ := hcs
      exact ⟨[], Rd.nil W⟩
    · simp [Value.cells] at hcs
      obtain ⟨rfl, rfl, rfl⟩ := hcs
      exact rd_of_row hl hm (by simpa using hz) hcell hwz
  obtain ⟨a1, rfl, rfl, rfl, k1⟩ := open_string Tryd.underlying9 (hval 1 9 v1 rfl rfl) h1
  clear hA0 hval0
  refine (walk _ x0 a1 W k0 k1 (salts_of_laid hL)).mono fun e W' ⟨he, bel⟩ => ?_
  subst he
  exact ⟨_, rfl, _, _, _, [], _, [], hW', trodAll_mk1 (shut_bool Tryd.underlying4 _), (trodAll_cons_mk (Below.trod laidOut (by kernel_rfl) (of_decide_eq_true (by kernel_rfl)) g0 bel lt0) (trodAll_cons_mk (shut_string Tryd.underlying9 k1) trodAll_mk0)), rfl, bel.frame _, fun h => by cases h⟩

theorem over : Rows.shaTextsRow.holds Tryd.pinned (OpenSpec.ofChange Rows.shaTextsSpec) :=
  OpenClaim.holds_of_wide 4 Tryd.f4 rfl rfl rfl rfl rfl rfl rfl ⟨rfl, rfl, rfl, rfl, rfl⟩ rfl rfl rfl rfl rfl (by kernel_rfl) Tryd.func4 (by kernel_rfl)
    (of_decide_eq_true (by kernel_rfl)) (by unfold Func.isWrapper; first | (rw [if_pos (by decide +kernel)]; kernel_rfl) | (rw [if_neg (by decide +kernel)]; exact ⟨rfl, rfl⟩))
    (fun os started H enc _ => lifted os started H enc)

theorem proved : Rows.ShaTextsCardSaid :=
  Claim7.holds_tied_plain_at .later [] [.data] true Rows.shaTextsCard.stood.harness false
    over (fun _ h => by cases h) (by kernel_rfl) (fun _ h => by cases h) shaTexts_row_tie rfl ⟨rfl, rfl⟩ (by kernel_rfl) rfl
    (fun f fn hf hfn => by
      obtain rfl : f = 4 := Option.some.inj ((show Tryd.prog.funcNamed Rows.shaTextsRow.func = some 4 by kernel_rfl).symm.trans hf) |>.symm
      obtain rfl : fn = Tryd.f4 := (Option.some.inj (Tryd.func4.symm.trans hfn)).symm
      exact ⟨by kernel_rfl, fun j t ht => by
        rw [Tryd.params4] at ht
        have hm := List.mem_of_getElem? (l := [22, 9]) (by simpa using ht)
        simp only [List.mem_cons, List.not_mem_nil, or_false] at hm
        rcases hm with rfl | rfl
        · exact (show Tryd.prog.wantsStandIn 22 = false by kernel_rfl)
        · exact (show Tryd.prog.wantsStandIn 9 = false by kernel_rfl)⟩)
    (by kernel_rfl)
#print axioms proved
end Go.Proofs.YtjinhgomhdlboaaDoor.shaTexts
