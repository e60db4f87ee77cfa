/- The walk of 'ShamirSplits' (law 8): the shares of any secret, by any draws, are the document's, or are refused. Premises: the contracts of shamir's Split. -/
import Derived.Test.YtpegnafapjcanaaShamC
import Derived.Test.YtpegnafapjcanaaSRef
import Derived.Test.YtpegnafapjcanaaKept
import Derived.Deep.RegionHeld
namespace Go.Proofs.Ytpegnafapjcanaa.shamirSplits
open Go.RowKit

def SplRel (n : Nat) (B : Nat) (w0 : World) (v : Value) (W : World) : Prop := ∃ i : Nat, v = .int .i64 (i : Int) ∧ i ≤ n ∧ Below B w0 W
set_option maxRecDepth 100000 in
set_option maxHeartbeats 4000000 in
theorem walkC (HS : SplitC) (HE : SplitE) (sec : List UInt8) (a1 a2 : Int) (v3 : Value) (draws : List UInt8) (w : World) (l0 : sec.length = 32) (k1 : (Lit.int .i64 a1).wf = true) (k2 : (Lit.int .i64 a2).wf = true) (k3 : Rd w v3 draws) :
    Calls Try.prog 3 #[.agg (sec.map bv).toArray, .int .i64 a1, .int .i64 a2, v3] w fun e w' => e = .returned (.bool true) ∧ Below w.heap.size w w' := by
  have HK1 := Lib.hid k1
  have HK2 := Lib.hid k2
  have HL := Lib.hid l0
  obtain ⟨Ad, cd, rfl, _, hcd, _⟩ := k3.form
  unfold maxLen at hcd
  have HR := Lib.hid k3
  have HSL : Hid ((sec.map bv).length = 32) := Lib.hid (by rw [List.length_map, l0])
  have HIK : Hid ((Try.prog.info? 23).map (·.size) = some 32) := Lib.hid (size_of info_key)
  have HIS : Hid ((Try.prog.info? 31).map (·.size) = some 33) := Lib.hid (size_of info_share)
  obtain ⟨W0, hW0⟩ : ∃ W : World, W = w.alloc (.cells (sec.map bv).toArray 23) := ⟨_, rfl⟩
  have D0 : Hid (Below w.heap.size w W0) := Lib.hid (by rw [hW0]; exact (Below.refl _ _).alloc (Nat.le_refl _) _)
  have P0 : Hid (Blk W0 w.heap.size 23 (sec.map bv)) := Lib.hid (by rw [hW0]; exact Blk.made w _ _)
  clear k1 k2 l0 k3
  by_cases h1 : 12 < a1
  · by_cases h2 : a1 < 256
    · go_enter Try.func3, Try.ntmps3
      go_upto_region 1 with (refine Go.Great.wpList_boxTo rfl _ _ rfl _ rfl w.heap.size rfl ((sec.map bv).toArray) rfl ?_)
      rw [← hW0]
      clear hW0
      go_wp2_with (fail)
      refine (shamAwake_any HS _).mono ?_
      rintro e w3 ⟨rfl, hb3⟩
      go_wp2_with (fail)
      go_ret
      exact ⟨rfl, D0.out.trans (hb3.mono D0.out.size)⟩
    · have g2 : decide (a1 < 256) = false := decide_eq_false h2
      by_cases h3 : (300 : Int) < (draws.length : Int)
      · clear h2
        go_enter Try.func3, Try.ntmps3
        go_upto_region 1 with (refine Go.Great.wpList_boxTo rfl _ _ rfl _ rfl w.heap.size rfl ((sec.map bv).toArray) rfl ?_)
        rw [← hW0]
        clear hW0
        go_wp2_with (fail)
        refine (shamAwake_any HS _).mono ?_
        rintro e w3 ⟨rfl, hb3⟩
        go_wp2_with (fail)
        go_ret
        exact ⟨rfl, D0.out.trans (hb3.mono D0.out.size)⟩
      · have g3 : decide ((300 : Int) < (draws.length : Int)) = false := decide_eq_false h3
        have HLD : Hid (draws.length ≤ 300) := Lib.hid (by omega)
        have g6 : (255 : Int) < a1 := by omega
        have HERR : Hid (a2 < 1 ∨ a1 < a2 ∨ 255 < a1) := Lib.hid (by omega)
        clear h2 h3
        by_cases h4 : a2 < 1
        · go_enter Try.func3, Try.ntmps3
          go_upto_region 1 with (refine Go.Great.wpList_boxTo rfl _ _ rfl _ rfl w.heap.size rfl ((sec.map bv).toArray) rfl ?_)
          rw [← hW0]
          clear hW0
          go_wp2_with (first
            | (refine wpList_load_blk rfl 23 (.tmp 4) rfl w.heap.size rfl 23 (sec.map bv) _ P0.out Try.underlying23 rfl (by rw [HSL.out]; exact HIK.out) ?_))
          refine (HE sec a1 a2 _ draws W0 HL.out HK1.out HK2.out HERR.out (HR.out.below D0.out) (by have := HLD.out; omega)).mono ?_
          rintro e w2 ⟨s, rfl, hr, hb⟩
          obtain ⟨A, c, rfl, _, _, _⟩ := hr.form
          have D2 : Hid (Below w.heap.size w w2) := Lib.hid (D0.out.trans (hb.mono D0.out.size))
          clear hr hb
          simp only [List.length_nil]
          go_wp2_with (fail)
          refine (shamAwake_any HS _).mono ?_
          rintro e w3 ⟨rfl, hb3⟩
          go_wp2_with (fail)
          go_ret
          exact ⟨rfl, D2.out.trans (hb3.mono D2.out.size)⟩
        · have g4 : decide (a2 < 1) = false := decide_eq_false h4
          clear h4
          by_cases h5 : a1 < a2
          · go_enter Try.func3, Try.ntmps3
            go_upto_region 1 with (refine Go.Great.wpList_boxTo rfl _ _ rfl _ rfl w.heap.size rfl ((sec.map bv).toArray) rfl ?_)
            rw [← hW0]
            clear hW0
            go_wp2_with (first
              | (refine wpList_load_blk rfl 23 (.tmp 4) rfl w.heap.size rfl 23 (sec.map bv) _ P0.out Try.underlying23 rfl (by rw [HSL.out]; exact HIK.out) ?_))
            refine (HE sec a1 a2 _ draws W0 HL.out HK1.out HK2.out HERR.out (HR.out.below D0.out) (by have := HLD.out; omega)).mono ?_
            rintro e w2 ⟨s, rfl, hr, hb⟩
            obtain ⟨A, c, rfl, _, _, _⟩ := hr.form
            have D2 : Hid (Below w.heap.size w w2) := Lib.hid (D0.out.trans (hb.mono D0.out.size))
            clear hr hb
            simp only [List.length_nil]
            go_wp2_with (fail)
            refine (shamAwake_any HS _).mono ?_
            rintro e w3 ⟨rfl, hb3⟩
            go_wp2_with (fail)
            go_ret
            exact ⟨rfl, D2.out.trans (hb3.mono D2.out.size)⟩
          · have g5 : decide (a1 < a2) = false := decide_eq_false h5
            clear h5
            go_enter Try.func3, Try.ntmps3
            go_upto_region 1 with (refine Go.Great.wpList_boxTo rfl _ _ rfl _ rfl w.heap.size rfl ((sec.map bv).toArray) rfl ?_)
            rw [← hW0]
            clear hW0
            go_wp2_with (first
              | (refine wpList_load_blk rfl 23 (.tmp 4) rfl w.heap.size rfl 23 (sec.map bv) _ P0.out Try.underlying23 rfl (by rw [HSL.out]; exact HIK.out) ?_))
            refine (HE sec a1 a2 _ draws W0 HL.out HK1.out HK2.out HERR.out (HR.out.below D0.out) (by have := HLD.out; omega)).mono ?_
            rintro e w2 ⟨s, rfl, hr, hb⟩
            obtain ⟨A, c, rfl, _, _, _⟩ := hr.form
            have D2 : Hid (Below w.heap.size w w2) := Lib.hid (D0.out.trans (hb.mono D0.out.size))
            clear hr hb
            simp only [List.length_nil]
            go_wp2_with (fail)
            refine (shamAwake_any HS _).mono ?_
            rintro e w3 ⟨rfl, hb3⟩
            go_wp2_with (fail)
            go_ret
            exact ⟨rfl, D2.out.trans (hb3.mono D2.out.size)⟩
  · have g1 : decide (12 < a1) = false := decide_eq_false h1
    by_cases h3 : (300 : Int) < (draws.length : Int)
    · clear h1
      go_enter Try.func3, Try.ntmps3
      go_upto_region 1 with (refine Go.Great.wpList_boxTo rfl _ _ rfl _ rfl w.heap.size rfl ((sec.map bv).toArray) rfl ?_)
      rw [← hW0]
      clear hW0
      go_wp2_with (fail)
      refine (shamAwake_any HS _).mono ?_
      rintro e w3 ⟨rfl, hb3⟩
      go_wp2_with (fail)
      go_ret
      exact ⟨rfl, D0.out.trans (hb3.mono D0.out.size)⟩
    · have g3 : decide ((300 : Int) < (draws.length : Int)) = false := decide_eq_false h3
      have HLD : Hid (draws.length ≤ 300) := Lib.hid (by omega)
      clear h3
      by_cases h4 : a2 < 1
      · have HERR : Hid (a2 < 1 ∨ a1 < a2 ∨ 255 < a1) := Lib.hid (.inl h4)
        clear h1
        go_enter Try.func3, Try.ntmps3
        go_upto_region 1 with (refine Go.Great.wpList_boxTo rfl _ _ rfl _ rfl w.heap.size rfl ((sec.map bv).toArray) rfl ?_)
        rw [← hW0]
        clear hW0
        go_wp2_with (first
          | (refine wpList_load_blk rfl 23 (.tmp 4) rfl w.heap.size rfl 23 (sec.map bv) _ P0.out Try.underlying23 rfl (by rw [HSL.out]; exact HIK.out) ?_))
        refine (HE sec a1 a2 _ draws W0 HL.out HK1.out HK2.out HERR.out (HR.out.below D0.out) (by have := HLD.out; omega)).mono ?_
        rintro e w2 ⟨s, rfl, hr, hb⟩
        obtain ⟨A, c, rfl, _, _, _⟩ := hr.form
        have D2 : Hid (Below w.heap.size w w2) := Lib.hid (D0.out.trans (hb.mono D0.out.size))
        clear hr hb
        simp only [List.length_nil]
        go_wp2_with (fail)
        refine (shamAwake_any HS _).mono ?_
        rintro e w3 ⟨rfl, hb3⟩
        go_wp2_with (fail)
        go_ret
        exact ⟨rfl, D2.out.trans (hb3.mono D2.out.size)⟩
      · have g4 : decide (a2 < 1) = false := decide_eq_false h4
        by_cases h5 : a1 < a2
        · have HERR : Hid (a2 < 1 ∨ a1 < a2 ∨ 255 < a1) := Lib.hid (.inr (.inl h5))
          clear h1 h4
          go_enter Try.func3, Try.ntmps3
          go_upto_region 1 with (refine Go.Great.wpList_boxTo rfl _ _ rfl _ rfl w.heap.size rfl ((sec.map bv).toArray) rfl ?_)
          rw [← hW0]
          clear hW0
          go_wp2_with (first
            | (refine wpList_load_blk rfl 23 (.tmp 4) rfl w.heap.size rfl 23 (sec.map bv) _ P0.out Try.underlying23 rfl (by rw [HSL.out]; exact HIK.out) ?_))
          refine (HE sec a1 a2 _ draws W0 HL.out HK1.out HK2.out HERR.out (HR.out.below D0.out) (by have := HLD.out; omega)).mono ?_
          rintro e w2 ⟨s, rfl, hr, hb⟩
          obtain ⟨A, c, rfl, _, _, _⟩ := hr.form
          have D2 : Hid (Below w.heap.size w w2) := Lib.hid (D0.out.trans (hb.mono D0.out.size))
          clear hr hb
          simp only [List.length_nil]
          go_wp2_with (fail)
          refine (shamAwake_any HS _).mono ?_
          rintro e w3 ⟨rfl, hb3⟩
          go_wp2_with (fail)
          go_ret
          exact ⟨rfl, D2.out.trans (hb3.mono D2.out.size)⟩
        · obtain ⟨n, rfl⟩ : ∃ n : Nat, a1 = (n : Int) := ⟨a1.toNat, by omega⟩
          obtain ⟨t, rfl⟩ : ∃ t : Nat, a2 = (t : Int) := ⟨a2.toNat, by omega⟩
          have g5 : decide ((n : Int) < (t : Int)) = false := decide_eq_false h5
          have g7 : decide (n < t) = false := decide_eq_false (by omega)
          have g6 : decide ((255 : Int) < (n : Int)) = false := decide_eq_false (by omega)
          have nI : (n : Int) ≤ 12 := by omega
          have HT1 : Hid (1 ≤ t) := Lib.hid (by omega)
          have HTN : Hid (t ≤ n) := Lib.hid (by omega)
          have HN12 : Hid (n ≤ 12) := Lib.hid (by omega)
          clear h1 h4 h5
          go_enter Try.func3, Try.ntmps3
          go_upto_region 1 with (refine Go.Great.wpList_boxTo rfl _ _ rfl _ rfl w.heap.size rfl ((sec.map bv).toArray) rfl ?_)
          rw [← hW0]
          clear hW0
          go_wp2_with (first
            | (refine wpList_load_blk rfl 23 (.tmp 4) rfl w.heap.size rfl 23 (sec.map bv) _ P0.out Try.underlying23 rfl (by rw [HSL.out]; exact HIK.out) ?_))
          refine (HS sec n t _ draws W0 HL.out HT1.out HTN.out HN12.out (HR.out.below D0.out) (by have := HLD.out; omega)).mono ?_
          rintro e w2 ⟨s, rfl, hr, hb⟩
          obtain ⟨L, hL⟩ : ∃ L, L = splitB sec n t draws := ⟨_, rfl⟩
          rw [← hL] at hr
          have HLn : Hid (L.length = n) := Lib.hid (by rw [hL, splitB_length])
          have HLG : Hid (∀ i, i < n → L.getD i [] = shareB sec (UInt8.ofNat (i + 1)) t draws) := Lib.hid fun i hi => by rw [hL]; exact splitB_get sec n t draws hi
          clear hL
          obtain ⟨A, c, rfl, _, _, hA⟩ := hr.form
          obtain ⟨b, off, rfl, hb1, hb3⟩ := hA (by have := HLn.out; have := HT1.out; have := HTN.out; omega)
          have HRF := Lib.hid hr
          have HRC : Hid (∀ W, Below w2.heap.size w2 W → ∀ i j, i < L.length → j < 33 → W.cell? ⟨b, off + i * 33 + j, none⟩ = some (bv ((L.getD i []).getD j 0))) := Lib.hid fun W hW i j hi hj => by
            rw [← hb3 i j hi hj]
            exact hW.cell (p := ⟨b, off + i * 33 + j, none⟩) hb1
          have D2 : Hid (Below w.heap.size w w2) := Lib.hid (D0.out.trans (hb.mono D0.out.size))
          have HP : Hid (Blk w2 w.heap.size 23 (sec.map bv)) := Lib.hid (P0.out.below hb P0.out.lt)
          have HRD : Hid (Rd w2 (.slice Ad draws.length cd) draws) := Lib.hid (HR.out.below D2.out)
          rw [HLn.out]
          clear hr hb hA hb1 hb3
          go_wp2_with (fail)
          go_loopw [11] (fun v wx => SplRel n w2.heap.size w2 v wx) (fun v _ => n - (intOf v).toNat)
          case atStart => exact ⟨0, rfl, by omega, Below.refl _ _⟩
          case round =>
            obtain ⟨i, rfl, hi, hbw⟩ := hrel
            have HBW := Lib.hid hbw
            by_cases hlt : i < n
            · have hI : (i : Int) < n := by omega
              have HLT : Hid (i < L.length) := Lib.hid (by rw [HLn.out]; exact hlt)
              obtain ⟨xs, hxs⟩ : ∃ xs, xs = L.getD i [] := ⟨_, rfl⟩
              have HRX : Hid (∀ W, Below w2.heap.size w2 W → W.rangeAt b (off + i * 33) (xs.map bv)) := Lib.hid fun W hW => by
                rw [hxs]
                exact el_range HRF.out.1 (HRC.out W hW) HLT.out
              have HXL : Hid ((xs.map bv).length = 33) := Lib.hid (by rw [List.length_map, hxs]; exact len_get HRF.out.1 HLT.out)
              have HXS : Hid (shareB sec (UInt8.ofNat (i + 1)) t draws = xs) := Lib.hid (by rw [hxs]; exact (HLG.out i hlt).symm)
              have hq : ∀ W, (Op.equalIn 10000 31 (.agg (xs.map bv).toArray) (.agg (xs.map bv).toArray)).run Try.prog W = .ok true W := fun W => by
                have h := run_equalIn_share xs xs (by simpa using HXL.out) (by simpa using HXL.out) W
                rw [decide_eq_true rfl] at h
                exact h
              have HSH : Hid (∀ W, Below w2.heap.size w2 W → Calls Try.prog 10 #[.agg (sec.map bv).toArray, .int .u8 ((i : Int) + 1), .int .i64 (t : Int), .slice Ad draws.length cd] W fun e W' => e = .returned (.agg (xs.map bv).toArray) ∧ Below W.heap.size W W') := Lib.hid fun W hW => by
                have h := refShare_any sec (UInt8.ofNat (i + 1)) t (.slice Ad draws.length cd) draws W HL.out HT1.out (by have := HTN.out; have := HN12.out; omega) (HRD.out.below hW) (by have := HLD.out; omega)
                rw [HXS.out] at h
                have e : (((UInt8.ofNat (i + 1)).toNat : Nat) : Int) = (i : Int) + 1 := by
                  rw [UInt8.toNat_ofNat']
                  have := HN12.out
                  omega
                rw [e] at h
                exact h
              have e1 : IntKind.i64.wrap ((i : Int) + 1) = (i : Int) + 1 := IntWalk.i64_in _ (by omega)
              have e2 : IntKind.u8.wrap ((i : Int) + 1) = (i : Int) + 1 := by
                have := HN12.out
                unfold IntKind.wrap
                simp [IntKind.bits, IntKind.signed]
                omega
              have HI := Lib.hid hlt
              clear hxs hbw hlt hi
              go_wp2_with (fail)
              refine wp_region_held_drew (S := (fun W => Below w2.heap.size w2 W)) (by kernel_rfl) ?_ (fun hHeld => ?_)
              · (first | (exact hHeld.trans (hb1.mono hHeld.size)) | (exact HBW.out.drew))
              refine take_put (i := 0) (oi := _) (v := ?_) 66 rfl rfl (by kernel_rfl) (by kernel_rfl) (by kernel_rfl) (fun _ _ _ h => h) (Or.inl ⟨by rfl, ?hy0⟩) (by assumption) ?_
              case hy0 => ((intro W hSw); (try dsimp only at hSw); go_simp; try (with_reducible rfl))
              simp only [List.set_cons_zero, List.set_cons_succ]
              refine take_put (i := 1) (oi := _) (v := ?_) 67 rfl rfl (by kernel_rfl) (by kernel_rfl) (by kernel_rfl) (fun _ _ _ h => h) (Or.inl ⟨by rfl, ?hy1⟩) (by assumption) ?_
              case hy1 => ((intro W hSw); (try dsimp only at hSw); go_simp; try (with_reducible rfl))
              simp only [List.set_cons_zero, List.set_cons_succ]
              refine take_put (i := 2) (oi := _) (v := ?_) 68 rfl rfl (by kernel_rfl) (by kernel_rfl) (by kernel_rfl) (fun _ _ _ h => h) (Or.inl ⟨by rfl, ?hy2⟩) (by assumption) ?_
              case hy2 => ((intro W hSw); (try dsimp only at hSw); go_simp; try (with_reducible rfl))
              simp only [List.set_cons_zero, List.set_cons_succ]
              refine take_put (i := 3) (oi := _) (v := _) 69 rfl rfl (by kernel_rfl) (by kernel_rfl) (by kernel_rfl) (fun _ _ _ h => h) (yieldsIf_load_mid (by rfl) _ _ rfl b (off + i * 33) rfl (xs.map bv) _ (fun W hW => HRX.out W hW) Try.underlying31 rfl (by rw [HXL.out]; exact HIS.out)) (by assumption) ?_
              simp only [List.set_cons_zero, List.set_cons_succ]
              refine take_put (i := 4) (oi := _) (v := _) 70 rfl rfl (by kernel_rfl) (by kernel_rfl) (by kernel_rfl) (fun _ _ _ h => h) (yieldsIf_load_mid (by rfl) _ _ rfl w.heap.size 0 rfl (sec.map bv) _ (fun W hW => (HP.out.below hW HP.out.lt).range 0) Try.underlying23 rfl (by rw [HSL.out]; exact HIK.out)) (by assumption) ?_
              simp only [List.set_cons_zero, List.set_cons_succ]
              refine take_put (i := 5) (oi := _) (v := ?_) 71 rfl rfl (by kernel_rfl) (by kernel_rfl) (by kernel_rfl) (fun _ _ _ h => h) (Or.inl ⟨by rfl, ?hy5⟩) (by assumption) ?_
              case hy5 => ((intro W hSw); (try dsimp only at hSw); go_simp; try (with_reducible rfl))
              simp only [List.set_cons_zero, List.set_cons_succ]
              refine take_put (i := 6) (oi := _) (v := ?_) 72 rfl rfl (by kernel_rfl) (by kernel_rfl) (by kernel_rfl) (fun _ _ _ h => h) (Or.inl ⟨by rfl, ?hy6⟩) (by assumption) ?_
              case hy6 => ((intro W hSw); (try dsimp only at hSw); go_simp; try (with_reducible rfl))
              simp only [List.set_cons_zero, List.set_cons_succ]
              refine take_put (i := 7) (oi := _) (v := ?_) 73 rfl rfl (by kernel_rfl) (by kernel_rfl) (by kernel_rfl) (fun _ _ _ h => h) (Or.inl ⟨by rfl, ?hy7⟩) (by assumption) ?_
              case hy7 => ((intro W hSw); (try dsimp only at hSw); go_simp; try (with_reducible rfl))
              simp only [List.set_cons_zero, List.set_cons_succ]
              refine take_put (i := 8) (oi := _) (v := ?_) 74 rfl rfl (by kernel_rfl) (by kernel_rfl) (by kernel_rfl) (fun _ _ _ h => h) (Or.inl ⟨by rfl, ?hy8⟩) (by assumption) ?_
              case hy8 => ((intro W hSw); (try dsimp only at hSw); go_simp; try (with_reducible rfl))
              simp only [List.set_cons_zero, List.set_cons_succ]
              refine take_put (i := 9) (oi := _) (v := ?_) 75 rfl rfl (by kernel_rfl) (by kernel_rfl) (by kernel_rfl) (fun _ _ _ h => h) (Or.inl ⟨by rfl, ?hy9⟩) (by assumption) ?_
              case hy9 => ((intro W hSw); (try dsimp only at hSw); go_simp; try (with_reducible rfl))
              simp only [List.set_cons_zero, List.set_cons_succ]
              refine wpAnyH_ready (rs := [10]) (by kernel_rfl) (by simp) ?_
              refine AllReadyH.cons (o := _) rfl (fun K hK => ?_) AllReadyH.nil
              go_simp
              refine (HSH.out _ (by assumption)).mono ?_
              rintro e V1 ⟨rfl, hb1⟩
              refine hK.out _ _ ?_ (fun hHeld => ?_)
              · (first | (exact hHeld.trans (hb1.mono hHeld.size)) | (exact HBW.out.drew))
              clear hK K
              try simp only [Act.put, List.setIfInBounds_toArray, List.set_cons_zero, List.set_cons_succ]
              refine take_put (i := 11) (oi := _) (v := ?_) 77 rfl rfl (by kernel_rfl) (by kernel_rfl) (by kernel_rfl) (fun _ _ _ h => h) (Or.inl ⟨by rfl, ?hy11⟩) (by assumption) ?_
              case hy11 => ((intro W hSw); (try dsimp only at hSw); go_simp; try (with_reducible rfl))
              simp only [List.set_cons_zero, List.set_cons_succ]
              refine wpAnyH_done (by kernel_rfl) ?_ _
              obtain ⟨W9, hW9⟩ : ∃ W : World, W = V1 := ⟨_, rfl⟩
              go_wp2_with (fail)
              have hi := HI.out
              refine ⟨⟨i + 1, by go_num, by omega, by assumption⟩, by simp [intOf]; omega⟩
            · obtain rfl : i = n := by omega
              clear hbw hi hlt
              go_wp2_with (fail)
              refine (shamAwake_any HS _).mono ?_
              rintro e w3 ⟨rfl, hb3⟩
              go_wp2_with (fail)
              go_ret
              exact ⟨rfl, (D2.out.trans (HBW.out.mono D2.out.size)).trans (hb3.mono (Nat.le_trans D2.out.size HBW.out.size))⟩
end Go.Proofs.Ytpegnafapjcanaa.shamirSplits
