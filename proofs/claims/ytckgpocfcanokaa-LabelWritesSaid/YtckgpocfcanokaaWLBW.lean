/- The walk of 'LabelWrites' (law 15). Premise: the contracts. -/
import Derived.Test.YtckgpocfcanokaaLbAw
import Derived.Test.YtckgpocfcanokaaLbGrt
import Derived.Test.YtckgpocfcanokaaLbChk
import Derived.Test.YtckgpocfcanokaaLbTex
import Derived.Test.YtckgpocfcanokaaLbSme
import Derived.Deep.RegionHeld3
import Derived.Test.YtckgpocfcanokaaKept
import Derived.Deep.Cut
import Derived.BigQuiet
namespace Go.Proofs.Ytckgpocfcanokaa
open Go.RowKit

theorem text_size {s : Se} (h : MayS s) : (textB s).length ≤ 100000 := by
  obtain ⟨n, l⟩ := s
  have h1 := word_size h.n
  have h2 := partB_len 0 l fun q hq => ⟨word_size (h.q q hq).1.n, word_size (h.q q hq).1.v⟩
  have h3 := h.few
  simp only at h1 h3
  rw [text_part, List.length_append, List.length_append, bl_size]
  have h4 : ((if l.isEmpty then [] else [125] : List UInt8)).length ≤ 1 := by split <;> decide
  omega
theorem str_is {b : ByteArray} {l : List UInt8} (h : b.toList = l) : b = bts l := str_inj (h.trans (bts_list l).symm)
set_option maxRecDepth 100000 in
set_option maxHeartbeats 8000000 in
theorem labelWrites.walkC (LC : LabelC) (n : ByteArray) (va : Value) (ls : List Qu) (m : ByteArray) (vb : Value) (ms : List Qu) (w : World) (k0 : RsLb w va ls) (l0 : n.size ≤ maxLen) (k1 : RsLb w vb ms) (l1 : m.size ≤ maxLen) :
    Calls Try.prog 3 #[.agg #[.string n, va], .agg #[.string m, vb]] w fun e w' => e = .returned (.bool true) ∧ Below w.heap.size w w' := by
  obtain ⟨A, c, rfl, _⟩ := k0.form
  obtain ⟨B, c2, rfl, _⟩ := k1.form
  obtain ⟨W0, hW0⟩ : ∃ W : World, W = (w.alloc (.cells #[.string n, .slice A ls.length c] 24)).alloc (.cells #[.string m, .slice B ms.length c2] 24) := ⟨_, rfl⟩
  have D0 : Hid (Below w.heap.size w W0) := Lib.hid (by rw [hW0]; exact (((Below.refl _ _).alloc (Nat.le_refl _) _).alloc (by simp) _))
  have X1 : Hid (Blk W0 w.heap.size 24 [.string n, .slice A ls.length c]) := Lib.hid (by rw [hW0]; exact (Blk.made w _ _).alloc _)
  have X2 : Hid (Blk W0 (w.heap.size + 1) 24 [.string m, .slice B ms.length c2]) := Lib.hid (by
    have h := Blk.made (w.alloc (.cells #[.string n, .slice A ls.length c] 24)) 24 [.string m, .slice B ms.length c2]
    rw [World.size_alloc] at h
    rw [hW0]
    exact h)
  obtain ⟨X, hX⟩ : ∃ X, X = w.heap.size := ⟨_, rfl⟩
  obtain ⟨Y, hY⟩ : ∃ Y, Y = w.heap.size + 1 := ⟨_, rfl⟩
  have HX : Hid (W0 = (w.alloc (.cells #[.string n, .slice A ls.length c] 24)).alloc (.cells #[.string m, .slice B ms.length c2] 24)) := Lib.hid hW0
  have R1 := Lib.hid (k0.below D0.out)
  have R2 := Lib.hid (k1.below D0.out)
  have M1 := Lib.hid (And.intro l0 l1)
  have HXY := Lib.hid (And.intro hX hY)
  rw [← hX] at X1
  rw [← hY] at X2
  have HS : Hid (∀ V, Below W0.heap.size W0 V → (V.cell? ⟨X, 0, none⟩ = some (.string n) ∧ V.cell? ⟨X, 1, none⟩ = some (.slice A ls.length c) ∧ V.cell? ⟨Y, 0, none⟩ = some (.string m) ∧ V.cell? ⟨Y, 1, none⟩ = some (.slice B ms.length c2) ∧ Below W0.heap.size W0 V)) := Lib.hid fun V hb => ⟨by rw [hb.cell (p := ⟨X, 0, none⟩) X1.out.lt, X1.out.cell]; rfl, by rw [hb.cell (p := ⟨X, 1, none⟩) X1.out.lt, X1.out.cell]; rfl, by rw [hb.cell (p := ⟨Y, 0, none⟩) X2.out.lt, X2.out.cell]; rfl, by rw [hb.cell (p := ⟨Y, 1, none⟩) X2.out.lt, X2.out.cell]; rfl, hb⟩
  have HGA : Hid (∀ V, Below W0.heap.size W0 V → Calls Try.prog 5 #[.agg #[.string n, .slice A ls.length c], .agg #[.string ⟨#[]⟩, .slice none 0 0]] V fun e V' => ∃ g : Bool, e = .returned (.bool g) ∧ Below V.heap.size V V') := Lib.hid fun V hV => by
    refine (refGreatL_any n _ ls ByteArray.empty _ [] V (R1.out.below hV) (rsQu_none V) M1.out.1 (by decide)).mono ?_
    rintro e V' ⟨g, he, _, hb⟩
    exact ⟨g, he, hb⟩
  have HGB : Hid (∀ V, Below W0.heap.size W0 V → Calls Try.prog 5 #[.agg #[.string m, .slice B ms.length c2], .agg #[.string ⟨#[]⟩, .slice none 0 0]] V fun e V' => ∃ g : Bool, e = .returned (.bool g) ∧ Below V.heap.size V V') := Lib.hid fun V hV => by
    refine (refGreatL_any m _ ms ByteArray.empty _ [] V (R2.out.below hV) (rsQu_none V) M1.out.2 (by decide)).mono ?_
    rintro e V' ⟨g, he, _, hb⟩
    exact ⟨g, he, hb⟩
  obtain ⟨x0, x1, y0, y1, _⟩ := HS.out W0 (Below.refl _ _)
  clear hW0 hX hY k0 k1 l0 l1
  go_enter Try.func3, Try.ntmps3
  go_upto_region 1 with (fail)
  rw [← HX.out]
  rw [← HXY.out.2, ← HXY.out.1]
  clear HX HXY
  go_wp2_with (fail)
  refine (HGA.out _ (Below.refl _ _)).mono ?_
  rintro e w1 ⟨g1, rfl, hb1⟩
  have B1 := Lib.hid hb1
  obtain ⟨xa0, xa1, ya0, ya1, _⟩ := HS.out w1 hb1
  clear hb1 x0 x1 y0 y1
  cases g1 with
  | true =>
    go_wp2_with (fail)
    refine (awakeL_any LC _).mono ?_
    rintro e w9 ⟨rfl, hb9⟩
    have B9 := Lib.hid (D0.out.trans ((B1.out.trans (hb9.mono B1.out.size)).mono D0.out.size))
    clear hb9
    go_wp2_with (fail)
    go_ret
    exact ⟨rfl, B9.out⟩
  | false =>
    go_wp2_with (fail)
    refine (HGB.out _ B1.out).mono ?_
    rintro e w2 ⟨g2, rfl, hb2⟩
    have B2 := Lib.hid (B1.out.trans (hb2.mono B1.out.size))
    obtain ⟨x0, x1, y0, y1, _⟩ := HS.out w2 B2.out
    clear hb2 xa0 xa1 ya0 ya1
    cases g2 with
    | true =>
      go_wp2_with (fail)
      refine (awakeL_any LC _).mono ?_
      rintro e w9 ⟨rfl, hb9⟩
      have B9 := Lib.hid (D0.out.trans ((B2.out.trans (hb9.mono B2.out.size)).mono D0.out.size))
      clear hb9
      go_wp2_with (fail)
      go_ret
      exact ⟨rfl, B9.out⟩
    | false =>
      have HCA : Hid (∀ V, Below W0.heap.size W0 V → Calls Try.prog 8 #[.agg #[.string n, .slice A ls.length c]] V fun e V' => ∃ g : Bool, e = .returned (.bool g) ∧ (g = true ↔ MayS ⟨n, ls⟩) ∧ Below V.heap.size V V') := Lib.hid fun V hV => refCheckL_any n _ ls V (R1.out.below hV) M1.out.1
      have HCB : Hid (∀ V, Below W0.heap.size W0 V → Calls Try.prog 8 #[.agg #[.string m, .slice B ms.length c2]] V fun e V' => ∃ g : Bool, e = .returned (.bool g) ∧ (g = true ↔ MayS ⟨m, ms⟩) ∧ Below V.heap.size V V') := Lib.hid fun V hV => refCheckL_any m _ ms V (R2.out.below hV) M1.out.2
      go_wp2_with (fail)
      refine (LC.check n _ ls w2 (R1.out.below B2.out) M1.out.1).mono ?_
      rintro e w3 ⟨k, rfl, hk, hb3⟩
      have B3 := Lib.hid (B2.out.trans (hb3.mono B2.out.size))
      have HK := Lib.hid hk
      obtain ⟨xa0, xa1, ya0, ya1, _⟩ := HS.out w3 B3.out
      clear hb3 hk x0 x1 y0 y1
      go_wp2_with (fail)
      refine (HCA.out _ B3.out).mono ?_
      rintro e w4 ⟨g4, rfl, hg4, hb4⟩
      have B4 := Lib.hid (B3.out.trans (hb4.mono B3.out.size))
      have HG4 := Lib.hid hg4
      obtain ⟨x0, x1, y0, y1, _⟩ := HS.out w4 B4.out
      clear hb4 hg4 xa0 xa1 ya0 ya1
      cases g4 with
      | false =>
        obtain rfl : k = 1 := by
          rcases HK.out with ⟨_, h⟩ | ⟨h, _⟩
          · exact Bool.noConfusion (HG4.out.2 h)
          · exact h
        go_wp2_with (fail)
        refine (HCA.out _ B4.out).mono ?_
        rintro e w5 ⟨g5, rfl, hg5, hb5⟩
        have B5 := Lib.hid (B4.out.trans (hb5.mono B4.out.size))
        obtain rfl : g5 = false := by
          cases g5 with
          | false => rfl
          | true => exact Bool.noConfusion (HG4.out.2 (hg5.1 rfl))
        clear hb5 hg5
        go_wp2_with (fail)
        refine (awakeL_any LC _).mono ?_
        rintro e w9 ⟨rfl, hb9⟩
        have B9 := Lib.hid (D0.out.trans ((B5.out.trans (hb9.mono B5.out.size)).mono D0.out.size))
        clear hb9
        go_wp2_with (fail)
        go_ret
        exact ⟨rfl, B9.out⟩
      | true =>
        have HMA : Hid (MayS ⟨n, ls⟩) := Lib.hid (HG4.out.1 rfl)
        obtain rfl : k = 0 := by
          rcases HK.out with ⟨h, _⟩ | ⟨_, h⟩
          · exact h
          · exact absurd HMA.out h
        go_wp2_with (fail)
        refine (HCA.out _ B4.out).mono ?_
        rintro e w5 ⟨g5, rfl, hg5, hb5⟩
        have B5 := Lib.hid (B4.out.trans (hb5.mono B4.out.size))
        obtain rfl : g5 = true := hg5.2 HMA.out
        obtain ⟨xa0, xa1, ya0, ya1, _⟩ := HS.out w5 B5.out
        clear hb5 hg5 x0 x1 y0 y1
        go_wp2_with (fail)
        refine (HCB.out _ B5.out).mono ?_
        rintro e w6 ⟨g6, rfl, hg6, hb6⟩
        have B6 := Lib.hid (B5.out.trans (hb6.mono B5.out.size))
        have HG6 := Lib.hid hg6
        obtain ⟨x0, x1, y0, y1, _⟩ := HS.out w6 B6.out
        clear hb6 hg6 xa0 xa1 ya0 ya1
        cases g6 with
        | false =>
          go_wp2_with (fail)
          refine (awakeL_any LC _).mono ?_
          rintro e w9 ⟨rfl, hb9⟩
          have B9 := Lib.hid (D0.out.trans ((B6.out.trans (hb9.mono B6.out.size)).mono D0.out.size))
          clear hb9
          go_wp2_with (fail)
          go_ret
          exact ⟨rfl, B9.out⟩
        | true =>
          have HMB : Hid (MayS ⟨m, ms⟩) := Lib.hid (HG6.out.1 rfl)
          obtain ⟨TA, hTA⟩ : ∃ TA, TA = bts (textB ⟨n, ls⟩) := ⟨_, rfl⟩
          obtain ⟨TB, hTB⟩ : ∃ TB, TB = bts (textB ⟨m, ms⟩) := ⟨_, rfl⟩
          have hta : TA.toList = textB ⟨n, ls⟩ := by rw [hTA, bts_list]
          have HTA : Hid (∀ V, Below W0.heap.size W0 V → Calls Try.prog 9 #[.agg #[.string n, .slice A ls.length c]] V fun e V' => e = .returned (.string TA) ∧ Below V.heap.size V V') := Lib.hid fun V hV => by
            refine (LC.text n _ ls V (R1.out.below hV) HMA.out).mono ?_
            rintro e V' ⟨t, rfl, ht, hb⟩
            rw [hTA, str_is ht]
            exact ⟨rfl, hb⟩
          have HTB0 : Hid (∀ V, Below W0.heap.size W0 V → Calls Try.prog 9 #[.agg #[.string m, .slice B ms.length c2]] V fun e V' => e = .returned (.string TB) ∧ Below V.heap.size V V') := Lib.hid fun V hV => by
            refine (LC.text m _ ms V (R2.out.below hV) HMB.out).mono ?_
            rintro e V' ⟨t, rfl, ht, hb⟩
            rw [hTB, str_is ht]
            exact ⟨rfl, hb⟩
          have HRT0 : Hid (∀ V, Below W0.heap.size W0 V → Calls Try.prog 11 #[.agg #[.string n, .slice A ls.length c]] V fun e V' => e = .returned (.string TA) ∧ Below V.heap.size V V') := Lib.hid fun V hV => by
            refine (refText_any n _ ls V (R1.out.below hV) HMA.out).mono ?_
            rintro e V' ⟨t, rfl, ht, hb⟩
            rw [hTA, str_is ht]
            exact ⟨rfl, hb⟩
          have HPA : Hid (∀ V, Calls Try.prog 10 #[.string TA] V fun e V' => ∃ v, e = .returned (.tuple #[.agg #[.string n, v], .int .i64 0]) ∧ RsLb V' v ls ∧ Below V.heap.size V V') := Lib.hid fun V => by
            refine (LC.parse TA V (by rw [← bl_size, hta]; exact text_size HMA.out)).mono ?_
            rintro e V' ⟨n', v, ls', k', rfl, hr, _, ha, hb⟩
            obtain ⟨rfl, h2⟩ := ser_one ha HMA.out hta.symm
            injection h2 with h3 h4
            subst h3 h4
            exact ⟨v, rfl, hr, hb⟩
          obtain ⟨eAB, heAB⟩ : ∃ eAB, (TA.toList == TB.toList) = eAB := ⟨_, rfl⟩
          have HEAB : Hid (eAB = true ↔ (n = m ∧ ls = ms)) := Lib.hid (by
            rw [← heAB, beq_iff_eq, hta, hTB, bts_list]
            constructor
            · intro h
              have h2 := text_inj HMA.out.sel HMB.out.sel h
              injection h2 with h3 h4
              exact ⟨h3, h4⟩
            · rintro ⟨rfl, rfl⟩
              rfl)
          clear hTA hTB hta
          go_wp2_with (fail)
          refine (HTA.out _ B6.out).mono ?_
          rintro e w7 ⟨rfl, hb7⟩
          have B7 := Lib.hid (B6.out.trans (hb7.mono B6.out.size))
          clear hb7 x0 x1 y0 y1
          go_wp2_with (fail)
          refine (HPA.out _).mono ?_
          rintro e w8 ⟨vs, rfl, hrs, hb8⟩
          obtain ⟨D, c3, rfl, _⟩ := hrs.form
          have B8 := Lib.hid (B7.out.trans (hb8.mono B7.out.size))
          obtain ⟨Z, hZ⟩ : ∃ Z, Z = w8.heap.size := ⟨_, rfl⟩
          obtain ⟨W3, hW3⟩ : ∃ W : World, W = w8.alloc (.cells #[.string n, .slice D ls.length c3] 24) := ⟨_, rfl⟩
          have D3 : Hid (Below w8.heap.size w8 W3) := Lib.hid (by rw [hW3]; exact (Below.refl _ _).alloc (Nat.le_refl _) _)
          have Z3 : Hid (Blk W3 Z 24 [.string n, .slice D ls.length c3]) := Lib.hid (by rw [hW3, hZ]; exact Blk.made w8 _ _)
          have RZ := Lib.hid (hrs.below D3.out)
          have E3 : Hid (Below W0.heap.size W0 W3) := Lib.hid (B8.out.trans (D3.out.mono B8.out.size))
          have HW3 := Lib.hid hW3
          have HZ := Lib.hid hZ
          have HS3 : Hid (∀ V, Below W3.heap.size W3 V → (V.cell? ⟨X, 0, none⟩ = some (.string n) ∧ V.cell? ⟨X, 1, none⟩ = some (.slice A ls.length c) ∧ V.cell? ⟨Y, 0, none⟩ = some (.string m) ∧ V.cell? ⟨Y, 1, none⟩ = some (.slice B ms.length c2) ∧ V.cell? ⟨Z, 0, none⟩ = some (.string n) ∧ V.cell? ⟨Z, 1, none⟩ = some (.slice D ls.length c3) ∧ Below W3.heap.size W3 V)) := Lib.hid fun V hb => by
            obtain ⟨q0, q1, q2, q3, _⟩ := HS.out V (E3.out.trans (hb.mono E3.out.size))
            exact ⟨q0, q1, q2, q3, by rw [hb.cell (p := ⟨Z, 0, none⟩) Z3.out.lt, Z3.out.cell]; rfl, by rw [hb.cell (p := ⟨Z, 1, none⟩) Z3.out.lt, Z3.out.cell]; rfl, hb⟩
          clear hrs hb8 hW3 hZ
          go_upto_region 10 with (fail)
          rw [← HW3.out, ← HZ.out]
          have S1 := HS3.out W3 (Below.refl _ _)
          clear HW3 HZ
          have HUP : Hid (∀ V, Below W3.heap.size W3 V → Below W0.heap.size W0 V) := Lib.hid fun V h => E3.out.trans (h.mono E3.out.size)
          have HRT : Hid (∀ V, Below W3.heap.size W3 V → Calls Try.prog 11 #[.agg #[.string n, .slice A ls.length c]] V fun e V' => e = .returned (.string TA) ∧ Below V.heap.size V V') := Lib.hid fun V hV => HRT0.out V (HUP.out V hV)
          have HTB : Hid (∀ V, Below W3.heap.size W3 V → Calls Try.prog 9 #[.agg #[.string m, .slice B ms.length c2]] V fun e V' => e = .returned (.string TB) ∧ Below V.heap.size V V') := Lib.hid fun V hV => HTB0.out V (HUP.out V hV)
          have HSA : Hid (∀ V, Below W3.heap.size W3 V → Calls Try.prog 12 #[.agg #[.string n, .slice D ls.length c3], .agg #[.string n, .slice A ls.length c]] V fun e V' => e = .returned (.bool true) ∧ Below V.heap.size V V') := Lib.hid fun V hV => by
            refine (refSameL_any n _ ls n _ ls V (RZ.out.below hV) (R1.out.below (HUP.out V hV))).mono ?_
            rintro e V' ⟨g, rfl, hg, hb⟩
            rw [hg.2 ⟨rfl, rfl⟩]
            exact ⟨rfl, hb⟩
          have HSB : Hid (∀ V, Below W3.heap.size W3 V → Calls Try.prog 12 #[.agg #[.string n, .slice A ls.length c], .agg #[.string m, .slice B ms.length c2]] V fun e V' => e = .returned (.bool eAB) ∧ Below V.heap.size V V') := Lib.hid fun V hV => by
            refine (refSameL_any n _ ls m _ ms V (R1.out.below (HUP.out V hV)) (R2.out.below (HUP.out V hV))).mono ?_
            rintro e V' ⟨g, rfl, hg, hb⟩
            have h1 : g = eAB := by rw [Bool.eq_iff_iff, hg, HEAB.out]
            rw [h1]
            exact ⟨rfl, hb⟩
          have SD : ∀ {V : World}, (V.cell? ⟨X, 0, none⟩ = some (.string n) ∧ V.cell? ⟨X, 1, none⟩ = some (.slice A ls.length c) ∧ V.cell? ⟨Y, 0, none⟩ = some (.string m) ∧ V.cell? ⟨Y, 1, none⟩ = some (.slice B ms.length c2) ∧ V.cell? ⟨Z, 0, none⟩ = some (.string n) ∧ V.cell? ⟨Z, 1, none⟩ = some (.slice D ls.length c3) ∧ Below W3.heap.size W3 V) → (V.drew.cell? ⟨X, 0, none⟩ = some (.string n) ∧ V.drew.cell? ⟨X, 1, none⟩ = some (.slice A ls.length c) ∧ V.drew.cell? ⟨Y, 0, none⟩ = some (.string m) ∧ V.drew.cell? ⟨Y, 1, none⟩ = some (.slice B ms.length c2) ∧ V.drew.cell? ⟨Z, 0, none⟩ = some (.string n) ∧ V.drew.cell? ⟨Z, 1, none⟩ = some (.slice D ls.length c3) ∧ Below W3.heap.size W3 V.drew) := fun h => HS3.out _ (h.2.2.2.2.2.2.drew)
          have C1 : Hid (∀ V, (V.cell? ⟨X, 0, none⟩ = some (.string n) ∧ V.cell? ⟨X, 1, none⟩ = some (.slice A ls.length c) ∧ V.cell? ⟨Y, 0, none⟩ = some (.string m) ∧ V.cell? ⟨Y, 1, none⟩ = some (.slice B ms.length c2) ∧ V.cell? ⟨Z, 0, none⟩ = some (.string n) ∧ V.cell? ⟨Z, 1, none⟩ = some (.slice D ls.length c3) ∧ Below W3.heap.size W3 V) → Calls Try.prog 11 #[.agg #[.string n, .slice A ls.length c]] V fun e V' => e = .returned (.string TA) ∧ (V'.cell? ⟨X, 0, none⟩ = some (.string n) ∧ V'.cell? ⟨X, 1, none⟩ = some (.slice A ls.length c) ∧ V'.cell? ⟨Y, 0, none⟩ = some (.string m) ∧ V'.cell? ⟨Y, 1, none⟩ = some (.slice B ms.length c2) ∧ V'.cell? ⟨Z, 0, none⟩ = some (.string n) ∧ V'.cell? ⟨Z, 1, none⟩ = some (.slice D ls.length c3) ∧ Below W3.heap.size W3 V')) := Lib.hid fun V hV => by
            have hB := hV.2.2.2.2.2.2
            refine (HRT.out V hB).mono ?_
            rintro e V' ⟨he, hb⟩
            exact ⟨he, HS3.out V' (hB.trans (hb.mono hB.size))⟩
          have C2 : Hid (∀ V, (V.cell? ⟨X, 0, none⟩ = some (.string n) ∧ V.cell? ⟨X, 1, none⟩ = some (.slice A ls.length c) ∧ V.cell? ⟨Y, 0, none⟩ = some (.string m) ∧ V.cell? ⟨Y, 1, none⟩ = some (.slice B ms.length c2) ∧ V.cell? ⟨Z, 0, none⟩ = some (.string n) ∧ V.cell? ⟨Z, 1, none⟩ = some (.slice D ls.length c3) ∧ Below W3.heap.size W3 V) → Calls Try.prog 12 #[.agg #[.string n, .slice D ls.length c3], .agg #[.string n, .slice A ls.length c]] V fun e V' => e = .returned (.bool true) ∧ (V'.cell? ⟨X, 0, none⟩ = some (.string n) ∧ V'.cell? ⟨X, 1, none⟩ = some (.slice A ls.length c) ∧ V'.cell? ⟨Y, 0, none⟩ = some (.string m) ∧ V'.cell? ⟨Y, 1, none⟩ = some (.slice B ms.length c2) ∧ V'.cell? ⟨Z, 0, none⟩ = some (.string n) ∧ V'.cell? ⟨Z, 1, none⟩ = some (.slice D ls.length c3) ∧ Below W3.heap.size W3 V')) := Lib.hid fun V hV => by
            have hB := hV.2.2.2.2.2.2
            refine (HSA.out V hB).mono ?_
            rintro e V' ⟨he, hb⟩
            exact ⟨he, HS3.out V' (hB.trans (hb.mono hB.size))⟩
          have C3 : Hid (∀ V, (V.cell? ⟨X, 0, none⟩ = some (.string n) ∧ V.cell? ⟨X, 1, none⟩ = some (.slice A ls.length c) ∧ V.cell? ⟨Y, 0, none⟩ = some (.string m) ∧ V.cell? ⟨Y, 1, none⟩ = some (.slice B ms.length c2) ∧ V.cell? ⟨Z, 0, none⟩ = some (.string n) ∧ V.cell? ⟨Z, 1, none⟩ = some (.slice D ls.length c3) ∧ Below W3.heap.size W3 V) → Calls Try.prog 9 #[.agg #[.string m, .slice B ms.length c2]] V fun e V' => e = .returned (.string TB) ∧ (V'.cell? ⟨X, 0, none⟩ = some (.string n) ∧ V'.cell? ⟨X, 1, none⟩ = some (.slice A ls.length c) ∧ V'.cell? ⟨Y, 0, none⟩ = some (.string m) ∧ V'.cell? ⟨Y, 1, none⟩ = some (.slice B ms.length c2) ∧ V'.cell? ⟨Z, 0, none⟩ = some (.string n) ∧ V'.cell? ⟨Z, 1, none⟩ = some (.slice D ls.length c3) ∧ Below W3.heap.size W3 V')) := Lib.hid fun V hV => by
            have hB := hV.2.2.2.2.2.2
            refine (HTB.out V hB).mono ?_
            rintro e V' ⟨he, hb⟩
            exact ⟨he, HS3.out V' (hB.trans (hb.mono hB.size))⟩
          have C4 : Hid (∀ V, (V.cell? ⟨X, 0, none⟩ = some (.string n) ∧ V.cell? ⟨X, 1, none⟩ = some (.slice A ls.length c) ∧ V.cell? ⟨Y, 0, none⟩ = some (.string m) ∧ V.cell? ⟨Y, 1, none⟩ = some (.slice B ms.length c2) ∧ V.cell? ⟨Z, 0, none⟩ = some (.string n) ∧ V.cell? ⟨Z, 1, none⟩ = some (.slice D ls.length c3) ∧ Below W3.heap.size W3 V) → Calls Try.prog 12 #[.agg #[.string n, .slice A ls.length c], .agg #[.string m, .slice B ms.length c2]] V fun e V' => e = .returned (.bool eAB) ∧ (V'.cell? ⟨X, 0, none⟩ = some (.string n) ∧ V'.cell? ⟨X, 1, none⟩ = some (.slice A ls.length c) ∧ V'.cell? ⟨Y, 0, none⟩ = some (.string m) ∧ V'.cell? ⟨Y, 1, none⟩ = some (.slice B ms.length c2) ∧ V'.cell? ⟨Z, 0, none⟩ = some (.string n) ∧ V'.cell? ⟨Z, 1, none⟩ = some (.slice D ls.length c3) ∧ Below W3.heap.size W3 V')) := Lib.hid fun V hV => by
            have hB := hV.2.2.2.2.2.2
            refine (HSB.out V hB).mono ?_
            rintro e V' ⟨he, hb⟩
            exact ⟨he, HS3.out V' (hB.trans (hb.mono hB.size))⟩
          have C5 : Hid (∀ V, (V.cell? ⟨X, 0, none⟩ = some (.string n) ∧ V.cell? ⟨X, 1, none⟩ = some (.slice A ls.length c) ∧ V.cell? ⟨Y, 0, none⟩ = some (.string m) ∧ V.cell? ⟨Y, 1, none⟩ = some (.slice B ms.length c2) ∧ V.cell? ⟨Z, 0, none⟩ = some (.string n) ∧ V.cell? ⟨Z, 1, none⟩ = some (.slice D ls.length c3) ∧ Below W3.heap.size W3 V) → Calls Try.prog 6 #[] V fun e V' => e = .returned (.bool true) ∧ (V'.cell? ⟨X, 0, none⟩ = some (.string n) ∧ V'.cell? ⟨X, 1, none⟩ = some (.slice A ls.length c) ∧ V'.cell? ⟨Y, 0, none⟩ = some (.string m) ∧ V'.cell? ⟨Y, 1, none⟩ = some (.slice B ms.length c2) ∧ V'.cell? ⟨Z, 0, none⟩ = some (.string n) ∧ V'.cell? ⟨Z, 1, none⟩ = some (.slice D ls.length c3) ∧ Below W3.heap.size W3 V')) := Lib.hid fun V hV => by
            have hB := hV.2.2.2.2.2.2
            refine (awakeL_any LC V).mono ?_
            rintro e V' ⟨he, hb⟩
            exact ⟨he, HS3.out V' (hB.trans (hb.mono hB.size))⟩
          go_wp2_with (fail)
          refine wp_region_held_drew (S := fun V => V.cell? ⟨X, 0, none⟩ = some (.string n) ∧ V.cell? ⟨X, 1, none⟩ = some (.slice A ls.length c) ∧ V.cell? ⟨Y, 0, none⟩ = some (.string m) ∧ V.cell? ⟨Y, 1, none⟩ = some (.slice B ms.length c2) ∧ V.cell? ⟨Z, 0, none⟩ = some (.string n) ∧ V.cell? ⟨Z, 1, none⟩ = some (.slice D ls.length c3) ∧ Below W3.heap.size W3 V) (by kernel_rfl) ?_ (fun hHeld => ?_)
          · (first | assumption | exact SD (by assumption))
          refine take_put (i := 0) (oi := _) (v := ?_) 49 rfl rfl (by kernel_rfl) (by kernel_rfl) (by kernel_rfl) (fun _ _ _ h => h) (Or.inl ⟨by rfl, ?hy0⟩) (by assumption) ?_
          case hy0 => ((intro W hSw); (try dsimp only at hSw); go_simp; try (with_reducible rfl))
          simp only [List.set_cons_zero, List.set_cons_succ]
          refine take_put (i := 1) (oi := _) (v := ?_) 50 rfl rfl (by kernel_rfl) (by kernel_rfl) (by kernel_rfl) (fun _ _ _ h => h) (Or.inl ⟨by rfl, ?hy1⟩) (by assumption) ?_
          case hy1 => ((intro W hSw); (try dsimp only at hSw); go_simp; try (with_reducible rfl))
          simp only [List.set_cons_zero, List.set_cons_succ]
          refine wpAnyH_ready (rs := [2]) (by kernel_rfl) (by simp) ?_
          refine AllReadyH.cons (o := _) rfl (fun K hK => ?_) AllReadyH.nil
          go_simp
          (go_at_call 11; refine (C1.out _ ?_).mono ?_; (first | assumption | exact SD (by assumption)); rintro e v1 ⟨rfl, s1⟩)
          refine hK.out _ _ ?_ (fun hHeld => ?_)
          · (first | assumption | exact SD (by assumption))
          clear hK K
          try simp only [Act.put, List.setIfInBounds_toArray, List.set_cons_zero, List.set_cons_succ]
          refine take_put (i := 3) (oi := _) (v := ?_) 52 rfl rfl (by kernel_rfl) (by kernel_rfl) (by kernel_rfl) (fun _ _ _ h => h) (Or.inl ⟨by rfl, ?hy3⟩) (by assumption) ?_
          case hy3 => ((intro W hSw); (try dsimp only at hSw); go_simp; try (with_reducible rfl))
          simp only [List.set_cons_zero, List.set_cons_succ]
          refine take_put (i := 4) (oi := _) (v := ?_) 53 rfl rfl (by kernel_rfl) (by kernel_rfl) (by kernel_rfl) (fun _ _ _ h => h) (Or.inl ⟨by rfl, ?hy4⟩) (by assumption) ?_
          case hy4 => ((intro W hSw); (try dsimp only at hSw); go_simp; try (with_reducible rfl))
          simp only [List.set_cons_zero, List.set_cons_succ]
          refine take_put (i := 5) (oi := _) (v := ?_) 54 rfl rfl (by kernel_rfl) (by kernel_rfl) (by kernel_rfl) (fun _ _ _ h => h) (Or.inl ⟨by rfl, ?hy5⟩) (by assumption) ?_
          case hy5 => ((intro W hSw); (try dsimp only at hSw); go_simp; try (with_reducible rfl))
          simp only [List.set_cons_zero, List.set_cons_succ]
          refine take_put (i := 6) (oi := _) (v := ?_) 55 rfl rfl (by kernel_rfl) (by kernel_rfl) (by kernel_rfl) (fun _ _ _ h => h) (Or.inl ⟨by rfl, ?hy6⟩) (by assumption) ?_
          case hy6 => ((intro W hSw); (try dsimp only at hSw); go_simp; try (with_reducible rfl))
          simp only [List.set_cons_zero, List.set_cons_succ]
          refine take_put (i := 7) (oi := _) (v := ?_) 56 rfl rfl (by kernel_rfl) (by kernel_rfl) (by kernel_rfl) (fun _ _ _ h => h) (Or.inl ⟨by rfl, ?hy7⟩) (by assumption) ?_
          case hy7 => ((intro W hSw); (try dsimp only at hSw); go_simp; try (with_reducible rfl))
          simp only [List.set_cons_zero, List.set_cons_succ]
          refine take_put (i := 8) (oi := _) (v := ?_) 57 rfl rfl (by kernel_rfl) (by kernel_rfl) (by kernel_rfl) (fun _ _ _ h => h) (Or.inl ⟨by rfl, ?hy8⟩) (by assumption) ?_
          case hy8 => ((intro W hSw); (try dsimp only at hSw); go_simp; try (with_reducible rfl))
          simp only [List.set_cons_zero, List.set_cons_succ]
          refine take_put (i := 9) (oi := _) (v := ?_) 58 rfl rfl (by kernel_rfl) (by kernel_rfl) (by kernel_rfl) (fun _ _ _ h => h) (Or.inl ⟨by rfl, ?hy9⟩) (by assumption) ?_
          case hy9 => ((intro W hSw); (try dsimp only at hSw); go_simp; try (with_reducible rfl))
          simp only [List.set_cons_zero, List.set_cons_succ]
          refine take_put (i := 10) (oi := _) (v := ?_) 59 rfl rfl (by kernel_rfl) (by kernel_rfl) (by kernel_rfl) (fun _ _ _ h => h) (Or.inl ⟨by rfl, ?hy10⟩) (by assumption) ?_
          case hy10 => ((intro W hSw); (try dsimp only at hSw); go_simp; try (with_reducible rfl))
          simp only [List.set_cons_zero, List.set_cons_succ]
          refine wpAnyH_ready (rs := [11]) (by kernel_rfl) (by simp) ?_
          refine AllReadyH.cons (o := _) rfl (fun K hK => ?_) AllReadyH.nil
          go_simp
          (go_at_call 12; refine (C2.out _ ?_).mono ?_; (first | assumption | exact SD (by assumption)); rintro e v1 ⟨rfl, s1⟩)
          refine hK.out _ _ ?_ (fun hHeld => ?_)
          · (first | assumption | exact SD (by assumption))
          clear hK K
          try simp only [Act.put, List.setIfInBounds_toArray, List.set_cons_zero, List.set_cons_succ]
          refine take_put (i := 12) (oi := _) (v := ?_) 61 rfl rfl (by kernel_rfl) (by kernel_rfl) (by kernel_rfl) (fun _ _ _ h => h) (Or.inl ⟨by rfl, ?hy12⟩) (by assumption) ?_
          case hy12 => ((intro W hSw); (try dsimp only at hSw); go_simp; try (with_reducible rfl))
          simp only [List.set_cons_zero, List.set_cons_succ]
          refine take_put (i := 13) (oi := _) (v := ?_) 62 rfl rfl (by kernel_rfl) (by kernel_rfl) (by kernel_rfl) (fun _ _ _ h => h) (Or.inl ⟨by rfl, ?hy13⟩) (by assumption) ?_
          case hy13 => ((intro W hSw); (try dsimp only at hSw); go_simp; try (with_reducible rfl))
          simp only [List.set_cons_zero, List.set_cons_succ]
          refine take_put (i := 14) (oi := _) (v := ?_) 63 rfl rfl (by kernel_rfl) (by kernel_rfl) (by kernel_rfl) (fun _ _ _ h => h) (Or.inl ⟨by rfl, ?hy14⟩) (by assumption) ?_
          case hy14 => ((intro W hSw); (try dsimp only at hSw); go_simp; try (with_reducible rfl))
          simp only [List.set_cons_zero, List.set_cons_succ]
          refine take_put (i := 15) (oi := _) (v := ?_) 64 rfl rfl (by kernel_rfl) (by kernel_rfl) (by kernel_rfl) (fun _ _ _ h => h) (Or.inl ⟨by rfl, ?hy15⟩) (by assumption) ?_
          case hy15 => ((intro W hSw); (try dsimp only at hSw); go_simp; try (with_reducible rfl))
          simp only [List.set_cons_zero, List.set_cons_succ]
          refine take_put (i := 18) (oi := _) (v := ?_) 67 rfl rfl (by kernel_rfl) (by kernel_rfl) (by kernel_rfl) (fun _ _ _ h => h) (Or.inl ⟨by rfl, ?hy18⟩) (by assumption) ?_
          case hy18 => ((intro W hSw); (try dsimp only at hSw); go_simp; try (with_reducible rfl))
          simp only [List.set_cons_zero, List.set_cons_succ]
          refine take_put (i := 19) (oi := _) (v := ?_) 68 rfl rfl (by kernel_rfl) (by kernel_rfl) (by kernel_rfl) (fun _ _ _ h => h) (Or.inl ⟨by rfl, ?hy19⟩) (by assumption) ?_
          case hy19 => ((intro W hSw); (try dsimp only at hSw); go_simp; try (with_reducible rfl))
          simp only [List.set_cons_zero, List.set_cons_succ]
          refine wpAnyH_ready (rs := [16]) (by kernel_rfl) (by simp) ?_
          refine AllReadyH.cons (o := _) rfl (fun K hK => ?_) AllReadyH.nil
          go_simp
          (go_at_call 9; refine (C3.out _ ?_).mono ?_; (first | assumption | exact SD (by assumption)); rintro e v1 ⟨rfl, s1⟩)
          refine hK.out _ _ ?_ (fun hHeld => ?_)
          · (first | assumption | exact SD (by assumption))
          clear hK K
          try simp only [Act.put, List.setIfInBounds_toArray, List.set_cons_zero, List.set_cons_succ]
          refine take_put (i := 17) (oi := _) (v := ?_) 66 rfl rfl (by kernel_rfl) (by kernel_rfl) (by kernel_rfl) (fun _ _ _ h => h) (Or.inl ⟨by rfl, ?hy17⟩) (by assumption) ?_
          case hy17 => ((intro W hSw); (try dsimp only at hSw); go_simp; try (with_reducible rfl))
          simp only [List.set_cons_zero, List.set_cons_succ]
          refine wpAnyH_ready (rs := [20]) (by kernel_rfl) (by simp) ?_
          refine AllReadyH.cons (o := _) rfl (fun K hK => ?_) AllReadyH.nil
          go_simp
          (go_at_call 12; refine (C4.out _ ?_).mono ?_; (first | assumption | exact SD (by assumption)); rintro e v1 ⟨rfl, s1⟩)
          refine hK.out _ _ ?_ (fun hHeld => ?_)
          · (first | assumption | exact SD (by assumption))
          clear hK K
          try simp only [Act.put, List.setIfInBounds_toArray, List.set_cons_zero, List.set_cons_succ]
          refine take_put (i := 21) (oi := _) (v := ?_) 70 rfl rfl (by kernel_rfl) (by kernel_rfl) (by kernel_rfl) (fun _ _ _ h => h) (Or.inl ⟨by rfl, ?hy21⟩) (by assumption) ?_
          case hy21 => ((intro W hSw); (try dsimp only at hSw); go_simp; try (with_reducible rfl))
          simp only [List.set_cons_zero, List.set_cons_succ]
          refine take_put (i := 22) (oi := _) (v := ?_) 71 rfl rfl (by kernel_rfl) (by kernel_rfl) (by kernel_rfl) (fun _ _ _ h => h) (Or.inl ⟨by rfl, ?hy22⟩) (by assumption) ?_
          case hy22 => ((intro W hSw); (try dsimp only at hSw); go_simp; try (with_reducible rfl))
          simp only [List.set_cons_zero, List.set_cons_succ]
          refine take_put (i := 23) (oi := _) (v := ?_) 72 rfl rfl (by kernel_rfl) (by kernel_rfl) (by kernel_rfl) (fun _ _ _ h => h) (Or.inl ⟨by rfl, ?hy23⟩) (by assumption) ?_
          case hy23 => ((intro W hSw); (try dsimp only at hSw); go_simp; try (with_reducible rfl))
          simp only [List.set_cons_zero, List.set_cons_succ]
          refine wpAnyH_ready (rs := [24]) (by kernel_rfl) (by simp) ?_
          refine AllReadyH.cons (o := _) rfl (fun K hK => ?_) AllReadyH.nil
          go_simp
          (go_at_call 6; refine (C5.out _ ?_).mono ?_; (first | assumption | exact SD (by assumption)); rintro e v1 ⟨rfl, s1⟩)
          refine hK.out _ _ ?_ (fun hHeld => ?_)
          · (first | assumption | exact SD (by assumption))
          clear hK K
          try simp only [Act.put, List.setIfInBounds_toArray, List.set_cons_zero, List.set_cons_succ]
          refine take_put (i := 25) (oi := _) (v := ?_) 74 rfl rfl (by kernel_rfl) (by kernel_rfl) (by kernel_rfl) (fun _ _ _ h => h) (Or.inl ⟨by rfl, ?hy25⟩) (by assumption) ?_
          case hy25 => ((intro W hSw); (try dsimp only at hSw); go_simp; try (with_reducible rfl))
          simp only [List.set_cons_zero, List.set_cons_succ]
          refine take_put (i := 26) (oi := _) (v := ?_) 4 rfl rfl (by kernel_rfl) (by kernel_rfl) (by kernel_rfl) (fun _ _ _ h => h) (Or.inl ⟨by rfl, ?hy26⟩) (by assumption) ?_
          case hy26 => ((intro W hSw); (try dsimp only at hSw); go_simp; try (with_reducible rfl))
          simp only [List.set_cons_zero, List.set_cons_succ]
          refine wpAnyH_done (by kernel_rfl) ?_ _
          have HB := Lib.hid (D0.out.trans ((E3.out.trans (s1.2.2.2.2.2.2.mono E3.out.size)).mono D0.out.size))
          go_wp2_with (fail)
          go_ret
          exact ⟨rfl, HB.out⟩
end Go.Proofs.Ytckgpocfcanokaa
