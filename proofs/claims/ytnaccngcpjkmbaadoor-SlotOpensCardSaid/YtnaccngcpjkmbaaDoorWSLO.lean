/- The walk of SlotOpens over contracts of the developers' disk and slot. Premises: the contracts; the fingerprint's table is laid. -/
import Derived.Test.YtnaccngcpjkmbaaDoorPart17
namespace Go.Proofs.YtnaccngcpjkmbaaDoor.slotOpens
open Go.RowKit

set_option maxRecDepth 100000 in
set_option maxHeartbeats 2000000 in
theorem opens_ok (DC : DiskW) (SC : SlotC DC) (SN : SlotN) (fr k : Int) (w : World) (wf : (Lit.int .i64 fr).wf = true) (wk : (Lit.int .i64 k).wf = true) (hs : Salts w) (ho : 1 ≤ k ∧ 0 ≤ fr ∧ fr + 2 * k ≤ 1024) : Calls Tryd.prog 5 #[.int .i64 fr, .int .i64 k] w fun e w' => e = .returned (.bool true) ∧ Below w.heap.size w w' := by
  have HS := Lib.hid hs
  obtain ⟨k2, hk2⟩ : ∃ k2 : Int, k2 = 2 * k := ⟨_, rfl⟩
  obtain ⟨k3, hk3⟩ : ∃ k3 : Int, k3 = 1024 - k2 := ⟨_, rfl⟩
  have g1 : decide ((1 : Int) ≤ k) = true := decide_eq_true (by omega)
  have g2 : decide (k ≤ 512) = true := decide_eq_true (by omega)
  have g3 : decide ((0 : Int) ≤ fr) = true := decide_eq_true (by omega)
  have e1 : IntKind.i64.wrap (2 * k) = k2 := by rw [hk2]; exact IntWalk.i64_in _ (by omega)
  have e2 : IntKind.i64.wrap (1024 - k2) = k3 := by rw [hk3]; exact IntWalk.i64_in _ (by omega)
  have g4 : decide (fr ≤ k3) = true := decide_eq_true (by omega)
  have HO := Lib.hid ho
  clear ho hs hk2 hk3
  go_enter Tryd.func5, Tryd.ntmps5
  go_wp2_with (fail)
  refine (DC.new w).mono ?_
  rintro e w1 ⟨dp, rfl, ⟨F1, h1, _⟩, b1⟩
  have H1 := Lib.hid h1
  have D1 := Lib.hid b1
  clear h1 b1
  go_wp2_with (fail)
  refine (SC.opn H1.out fr k wf wk HO.out.1 HO.out.2.1 HO.out.2.2).mono ?_
  rintro e w2 ⟨X, rfl, _, b2⟩
  have D2 := Lib.hid (D1.out.trans (b2.mono D1.out.size))
  clear b2 D1
  go_wp2_with (fail)
  refine (SN.opn fr k w2 wf wk).mono ?_
  rintro e w3 ⟨rfl, b3⟩
  have D3 := Lib.hid (D2.out.trans (b3.mono D2.out.size))
  clear b3 D2
  go_wp2_with (fail)
  refine (SN.load w3).mono ?_
  rintro e w4 ⟨u4, n4, rfl, b4⟩
  have D4 := Lib.hid (D3.out.trans (b4.mono D3.out.size))
  clear b4 D3
  go_wp2_with (fail)
  refine (SN.save _ [] w4 (Rd.nil _)).mono ?_
  rintro e w5 ⟨n5, rfl, b5⟩
  have D5 := Lib.hid (D4.out.trans (b5.mono D4.out.size))
  clear b5 D4
  go_wp2_with (fail)
  refine (SN.wipe _ [] w5 (Rd.nil _)).mono ?_
  rintro e w6 ⟨n6, rfl, b6⟩
  have D6 := Lib.hid (D5.out.trans (b6.mono D5.out.size))
  clear b6 D5
  go_wp2_with (fail)
  refine (awakeS_any DC SC w6 (HS.out.under D6.out HS.out.1)).mono ?_
  rintro e w7 ⟨rfl, b7⟩
  have D7 := Lib.hid (D6.out.trans (b7.mono D6.out.size))
  clear b7 D6
  go_wp2_with (fail)
  go_ret
  exact ⟨rfl, D7.out⟩
set_option maxRecDepth 100000 in
set_option maxHeartbeats 2000000 in
theorem opens_b1 (DC : DiskW) (SC : SlotC DC) (SN : SlotN) (fr k : Int) (w : World) (wf : (Lit.int .i64 fr).wf = true) (wk : (Lit.int .i64 k).wf = true) (hs : Salts w) (ho : ¬ (1 ≤ k ∧ 0 ≤ fr ∧ fr + 2 * k ≤ 1024)) (h1 : ¬ 1 ≤ k) : Calls Tryd.prog 5 #[.int .i64 fr, .int .i64 k] w fun e w' => e = .returned (.bool true) ∧ Below w.heap.size w w' := by
  have HS := Lib.hid hs
  obtain ⟨k2, hk2⟩ : ∃ k2 : Int, k2 = 2 * k := ⟨_, rfl⟩
  obtain ⟨k3, hk3⟩ : ∃ k3 : Int, k3 = 1024 - k2 := ⟨_, rfl⟩
  have g1 : decide ((1 : Int) ≤ k) = false := decide_eq_false (by omega)
  have HO := Lib.hid ho
  clear ho hs hk2 hk3
  go_enter Tryd.func5, Tryd.ntmps5
  go_wp2_with (fail)
  refine (DC.new w).mono ?_
  rintro e w1 ⟨dp, rfl, ⟨F1, h1, _⟩, b1⟩
  have H1 := Lib.hid h1
  have D1 := Lib.hid b1
  clear h1 b1
  go_wp2_with (fail)
  refine (SC.bad H1.out fr k wf wk HO.out).mono ?_
  rintro e w2 ⟨rfl, b2⟩
  have D2 := Lib.hid (D1.out.trans (b2.mono D1.out.size))
  clear b2 D1
  go_wp2_with (fail)
  refine (SN.opn fr k w2 wf wk).mono ?_
  rintro e w3 ⟨rfl, b3⟩
  have D3 := Lib.hid (D2.out.trans (b3.mono D2.out.size))
  clear b3 D2
  go_wp2_with (fail)
  refine (SN.load w3).mono ?_
  rintro e w4 ⟨u4, n4, rfl, b4⟩
  have D4 := Lib.hid (D3.out.trans (b4.mono D3.out.size))
  clear b4 D3
  go_wp2_with (fail)
  refine (SN.save _ [] w4 (Rd.nil _)).mono ?_
  rintro e w5 ⟨n5, rfl, b5⟩
  have D5 := Lib.hid (D4.out.trans (b5.mono D4.out.size))
  clear b5 D4
  go_wp2_with (fail)
  refine (SN.wipe _ [] w5 (Rd.nil _)).mono ?_
  rintro e w6 ⟨n6, rfl, b6⟩
  have D6 := Lib.hid (D5.out.trans (b6.mono D5.out.size))
  clear b6 D5
  go_wp2_with (fail)
  refine (awakeS_any DC SC w6 (HS.out.under D6.out HS.out.1)).mono ?_
  rintro e w7 ⟨rfl, b7⟩
  have D7 := Lib.hid (D6.out.trans (b7.mono D6.out.size))
  clear b7 D6
  go_wp2_with (fail)
  go_ret
  exact ⟨rfl, D7.out⟩
set_option maxRecDepth 100000 in
set_option maxHeartbeats 2000000 in
theorem opens_b2 (DC : DiskW) (SC : SlotC DC) (SN : SlotN) (fr k : Int) (w : World) (wf : (Lit.int .i64 fr).wf = true) (wk : (Lit.int .i64 k).wf = true) (hs : Salts w) (ho : ¬ (1 ≤ k ∧ 0 ≤ fr ∧ fr + 2 * k ≤ 1024)) (h1 : 1 ≤ k) (h2 : ¬ k ≤ 512) : Calls Tryd.prog 5 #[.int .i64 fr, .int .i64 k] w fun e w' => e = .returned (.bool true) ∧ Below w.heap.size w w' := by
  have HS := Lib.hid hs
  obtain ⟨k2, hk2⟩ : ∃ k2 : Int, k2 = 2 * k := ⟨_, rfl⟩
  obtain ⟨k3, hk3⟩ : ∃ k3 : Int, k3 = 1024 - k2 := ⟨_, rfl⟩
  have g1 : decide ((1 : Int) ≤ k) = true := decide_eq_true (by omega)
  have g2 : decide (k ≤ 512) = false := decide_eq_false (by omega)
  have HO := Lib.hid ho
  clear ho hs hk2 hk3
  go_enter Tryd.func5, Tryd.ntmps5
  go_wp2_with (fail)
  refine (DC.new w).mono ?_
  rintro e w1 ⟨dp, rfl, ⟨F1, h1, _⟩, b1⟩
  have H1 := Lib.hid h1
  have D1 := Lib.hid b1
  clear h1 b1
  go_wp2_with (fail)
  refine (SC.bad H1.out fr k wf wk HO.out).mono ?_
  rintro e w2 ⟨rfl, b2⟩
  have D2 := Lib.hid (D1.out.trans (b2.mono D1.out.size))
  clear b2 D1
  go_wp2_with (fail)
  refine (SN.opn fr k w2 wf wk).mono ?_
  rintro e w3 ⟨rfl, b3⟩
  have D3 := Lib.hid (D2.out.trans (b3.mono D2.out.size))
  clear b3 D2
  go_wp2_with (fail)
  refine (SN.load w3).mono ?_
  rintro e w4 ⟨u4, n4, rfl, b4⟩
  have D4 := Lib.hid (D3.out.trans (b4.mono D3.out.size))
  clear b4 D3
  go_wp2_with (fail)
  refine (SN.save _ [] w4 (Rd.nil _)).mono ?_
  rintro e w5 ⟨n5, rfl, b5⟩
  have D5 := Lib.hid (D4.out.trans (b5.mono D4.out.size))
  clear b5 D4
  go_wp2_with (fail)
  refine (SN.wipe _ [] w5 (Rd.nil _)).mono ?_
  rintro e w6 ⟨n6, rfl, b6⟩
  have D6 := Lib.hid (D5.out.trans (b6.mono D5.out.size))
  clear b6 D5
  go_wp2_with (fail)
  refine (awakeS_any DC SC w6 (HS.out.under D6.out HS.out.1)).mono ?_
  rintro e w7 ⟨rfl, b7⟩
  have D7 := Lib.hid (D6.out.trans (b7.mono D6.out.size))
  clear b7 D6
  go_wp2_with (fail)
  go_ret
  exact ⟨rfl, D7.out⟩
set_option maxRecDepth 100000 in
set_option maxHeartbeats 2000000 in
theorem opens_b3 (DC : DiskW) (SC : SlotC DC) (SN : SlotN) (fr k : Int) (w : World) (wf : (Lit.int .i64 fr).wf = true) (wk : (Lit.int .i64 k).wf = true) (hs : Salts w) (ho : ¬ (1 ≤ k ∧ 0 ≤ fr ∧ fr + 2 * k ≤ 1024)) (h1 : 1 ≤ k) (h2 : k ≤ 512) (h3 : ¬ 0 ≤ fr) : Calls Tryd.prog 5 #[.int .i64 fr, .int .i64 k] w fun e w' => e = .returned (.bool true) ∧ Below w.heap.size w w' := by
  have HS := Lib.hid hs
  obtain ⟨k2, hk2⟩ : ∃ k2 : Int, k2 = 2 * k := ⟨_, rfl⟩
  obtain ⟨k3, hk3⟩ : ∃ k3 : Int, k3 = 1024 - k2 := ⟨_, rfl⟩
  have g1 : decide ((1 : Int) ≤ k) = true := decide_eq_true (by omega)
  have g2 : decide (k ≤ 512) = true := decide_eq_true (by omega)
  have g3 : decide ((0 : Int) ≤ fr) = false := decide_eq_false (by omega)
  have HO := Lib.hid ho
  clear ho hs hk2 hk3
  go_enter Tryd.func5, Tryd.ntmps5
  go_wp2_with (fail)
  refine (DC.new w).mono ?_
  rintro e w1 ⟨dp, rfl, ⟨F1, h1, _⟩, b1⟩
  have H1 := Lib.hid h1
  have D1 := Lib.hid b1
  clear h1 b1
  go_wp2_with (fail)
  refine (SC.bad H1.out fr k wf wk HO.out).mono ?_
  rintro e w2 ⟨rfl, b2⟩
  have D2 := Lib.hid (D1.out.trans (b2.mono D1.out.size))
  clear b2 D1
  go_wp2_with (fail)
  refine (SN.opn fr k w2 wf wk).mono ?_
  rintro e w3 ⟨rfl, b3⟩
  have D3 := Lib.hid (D2.out.trans (b3.mono D2.out.size))
  clear b3 D2
  go_wp2_with (fail)
  refine (SN.load w3).mono ?_
  rintro e w4 ⟨u4, n4, rfl, b4⟩
  have D4 := Lib.hid (D3.out.trans (b4.mono D3.out.size))
  clear b4 D3
  go_wp2_with (fail)
  refine (SN.save _ [] w4 (Rd.nil _)).mono ?_
  rintro e w5 ⟨n5, rfl, b5⟩
  have D5 := Lib.hid (D4.out.trans (b5.mono D4.out.size))
  clear b5 D4
  go_wp2_with (fail)
  refine (SN.wipe _ [] w5 (Rd.nil _)).mono ?_
  rintro e w6 ⟨n6, rfl, b6⟩
  have D6 := Lib.hid (D5.out.trans (b6.mono D5.out.size))
  clear b6 D5
  go_wp2_with (fail)
  refine (awakeS_any DC SC w6 (HS.out.under D6.out HS.out.1)).mono ?_
  rintro e w7 ⟨rfl, b7⟩
  have D7 := Lib.hid (D6.out.trans (b7.mono D6.out.size))
  clear b7 D6
  go_wp2_with (fail)
  go_ret
  exact ⟨rfl, D7.out⟩
set_option maxRecDepth 100000 in
set_option maxHeartbeats 2000000 in
theorem opens_b4 (DC : DiskW) (SC : SlotC DC) (SN : SlotN) (fr k : Int) (w : World) (wf : (Lit.int .i64 fr).wf = true) (wk : (Lit.int .i64 k).wf = true) (hs : Salts w) (ho : ¬ (1 ≤ k ∧ 0 ≤ fr ∧ fr + 2 * k ≤ 1024)) (h1 : 1 ≤ k) (h2 : k ≤ 512) (h3 : 0 ≤ fr) : Calls Tryd.prog 5 #[.int .i64 fr, .int .i64 k] w fun e w' => e = .returned (.bool true) ∧ Below w.heap.size w w' := by
  have HS := Lib.hid hs
  obtain ⟨k2, hk2⟩ : ∃ k2 : Int, k2 = 2 * k := ⟨_, rfl⟩
  obtain ⟨k3, hk3⟩ : ∃ k3 : Int, k3 = 1024 - k2 := ⟨_, rfl⟩
  have g1 : decide ((1 : Int) ≤ k) = true := decide_eq_true (by omega)
  have g2 : decide (k ≤ 512) = true := decide_eq_true (by omega)
  have g3 : decide ((0 : Int) ≤ fr) = true := decide_eq_true (by omega)
  have e1 : IntKind.i64.wrap (2 * k) = k2 := by rw [hk2]; exact IntWalk.i64_in _ (by omega)
  have e2 : IntKind.i64.wrap (1024 - k2) = k3 := by rw [hk3]; exact IntWalk.i64_in _ (by omega)
  have g4 : decide (fr ≤ k3) = false := decide_eq_false (by omega)
  have HO := Lib.hid ho
  clear ho hs hk2 hk3
  go_enter Tryd.func5, Tryd.ntmps5
  go_wp2_with (fail)
  refine (DC.new w).mono ?_
  rintro e w1 ⟨dp, rfl, ⟨F1, h1, _⟩, b1⟩
  have H1 := Lib.hid h1
  have D1 := Lib.hid b1
  clear h1 b1
  go_wp2_with (fail)
  refine (SC.bad H1.out fr k wf wk HO.out).mono ?_
  rintro e w2 ⟨rfl, b2⟩
  have D2 := Lib.hid (D1.out.trans (b2.mono D1.out.size))
  clear b2 D1
  go_wp2_with (fail)
  refine (SN.opn fr k w2 wf wk).mono ?_
  rintro e w3 ⟨rfl, b3⟩
  have D3 := Lib.hid (D2.out.trans (b3.mono D2.out.size))
  clear b3 D2
  go_wp2_with (fail)
  refine (SN.load w3).mono ?_
  rintro e w4 ⟨u4, n4, rfl, b4⟩
  have D4 := Lib.hid (D3.out.trans (b4.mono D3.out.size))
  clear b4 D3
  go_wp2_with (fail)
  refine (SN.save _ [] w4 (Rd.nil _)).mono ?_
  rintro e w5 ⟨n5, rfl, b5⟩
  have D5 := Lib.hid (D4.out.trans (b5.mono D4.out.size))
  clear b5 D4
  go_wp2_with (fail)
  refine (SN.wipe _ [] w5 (Rd.nil _)).mono ?_
  rintro e w6 ⟨n6, rfl, b6⟩
  have D6 := Lib.hid (D5.out.trans (b6.mono D5.out.size))
  clear b6 D5
  go_wp2_with (fail)
  refine (awakeS_any DC SC w6 (HS.out.under D6.out HS.out.1)).mono ?_
  rintro e w7 ⟨rfl, b7⟩
  have D7 := Lib.hid (D6.out.trans (b7.mono D6.out.size))
  clear b7 D6
  go_wp2_with (fail)
  go_ret
  exact ⟨rfl, D7.out⟩
theorem walkC (DC : DiskW) (SC : SlotC DC) (SN : SlotN) (fr k : Int) (w : World) (wf : (Lit.int .i64 fr).wf = true) (wk : (Lit.int .i64 k).wf = true) (hs : Salts w) : Calls Tryd.prog 5 #[.int .i64 fr, .int .i64 k] w fun e w' => e = .returned (.bool true) ∧ Below w.heap.size w w' := by
  by_cases ho : 1 ≤ k ∧ 0 ≤ fr ∧ fr + 2 * k ≤ 1024
  · exact opens_ok DC SC SN fr k w wf wk hs ho
  · by_cases h1 : 1 ≤ k
    · by_cases h2 : k ≤ 512
      · by_cases h3 : 0 ≤ fr
        · exact opens_b4 DC SC SN fr k w wf wk hs ho h1 h2 h3
        · exact opens_b3 DC SC SN fr k w wf wk hs ho h1 h2 h3
      · exact opens_b2 DC SC SN fr k w wf wk hs ho h1 h2
    · exact opens_b1 DC SC SN fr k w wf wk hs ho h1
end Go.Proofs.YtnaccngcpjkmbaaDoor.slotOpens
