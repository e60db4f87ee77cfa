/- The walk of JournalScrubs over contracts of the developers' disk and journal. Premises: the contracts; the fingerprint's table is laid. -/
import Derived.Test.YtbodiioemohenaaDoorWJSA
import Derived.Test.YtbodiioemohenaaDoorWJSB
namespace Go.Proofs.YtbodiioemohenaaDoor.journalScrubs
open Go.RowKit

set_option maxRecDepth 100000 in
set_option maxHeartbeats 2000000 in
theorem big0 (DC : DiskW) (JC : JournC DC) (Al : Option Addr) (cl : Nat) (xss : List (List UInt8)) (Au : Option Addr) (cu : Nat) (us : List UInt8) (w : World) (nI : (xss.length : Int) ≤ 9223372036854775807) (hs : Salts w) (h1 : 5 < xss.length) : Calls Tryd.prog 4 #[.slice Al xss.length cl, .slice Au us.length cu] w fun e w' => e = .returned (.bool true) ∧ Below w.heap.size w w' := by
  have g1 : decide ((5 : Int) < (xss.length : Int)) = true := decide_eq_true (by omega)
  have HS := Lib.hid hs
  clear hs h1
  go_enter Tryd.func4, Tryd.ntmps4
  go_wp2_with (fail)
  refine (awakeJ_any DC JC w HS.out).mono ?_
  rintro e w1 ⟨rfl, b1⟩
  go_wp2_with (fail)
  go_ret
  exact ⟨rfl, b1⟩
set_option maxRecDepth 100000 in
set_option maxHeartbeats 2000000 in
theorem big1 (DC : DiskW) (JC : JournC DC) (Al : Option Addr) (cl : Nat) (xss : List (List UInt8)) (Au : Option Addr) (cu : Nat) (us : List UInt8) (w : World) (nI : (xss.length : Int) ≤ 9223372036854775807) (uI : (us.length : Int) ≤ 9223372036854775807) (hs : Salts w) (h1 : ¬ 5 < xss.length) (h2 : 300 < us.length) : Calls Tryd.prog 4 #[.slice Al xss.length cl, .slice Au us.length cu] w fun e w' => e = .returned (.bool true) ∧ Below w.heap.size w w' := by
  have g1 : decide ((5 : Int) < (xss.length : Int)) = false := decide_eq_false (by omega)
  have g2 : decide ((300 : Int) < (us.length : Int)) = true := decide_eq_true (by omega)
  have HS := Lib.hid hs
  clear hs h1 h2
  go_enter Tryd.func4, Tryd.ntmps4
  go_wp2_with (fail)
  refine (awakeJ_any DC JC w HS.out).mono ?_
  rintro e w1 ⟨rfl, b1⟩
  go_wp2_with (fail)
  go_ret
  exact ⟨rfl, b1⟩
set_option maxRecDepth 100000 in
set_option maxHeartbeats 4000000 in
theorem main (DC : DiskW) (JC : JournC DC) (RC : RawC DC) (Al : Option Addr) (cl : Nat) (xss : List (List UInt8)) (Au : Option Addr) (cu : Nat) (us : List UInt8) (w : World) (nI : (xss.length : Int) ≤ 9223372036854775807) (uI : (us.length : Int) ≤ 9223372036854775807) (hs : Salts w) (hl : RsA w (.slice Al xss.length cl) xss) (hu : Rd w (.slice Au us.length cu) us) (h1 : ¬ 5 < xss.length) (h2 : ¬ 300 < us.length) : Calls Tryd.prog 4 #[.slice Al xss.length cl, .slice Au us.length cu] w fun e w' => e = .returned (.bool true) ∧ Below w.heap.size w w' := by
  have g1 : decide ((5 : Int) < (xss.length : Int)) = false := decide_eq_false (by omega)
  have g2 : decide ((300 : Int) < (us.length : Int)) = false := decide_eq_false (by omega)
  have HS := Lib.hid hs
  have HL := Lib.hid hl
  have HU := Lib.hid hu
  have HN : Hid (xss.length ≤ 5 ∧ us.length ≤ 300) := Lib.hid ⟨by omega, by omega⟩
  clear hs hl hu h1 h2
  go_enter Tryd.func4, Tryd.ntmps4
  go_wp2_with (fail)
  refine (jk_new (DC := DC) w).mono ?_
  rintro e w1 ⟨dp, rfl, k1⟩
  have K1 := Lib.hid k1
  clear k1
  go_wp2_with (fail)
  refine (jk_open (JC := JC) K1.out).mono ?_
  rintro e w2 ⟨X, st0, rfl, _, k2⟩
  have K2 := Lib.hid k2
  clear k2 K1 g1 g2
  go_wp2_with (fail)
  refine jsa_loop DC JC _ _ _ _ _ _ _ _ _ _ _ _ _ _ _ _ _ _ _ _ _ _ _ _ _ _ _ _ _ _ _ _ _ _ _ _ _ _ _ _ _ _ _ _ _ _ _ _ _ _ _ _ _ _ _ _ _ _ _ _ _ _ _ _ _ _ _ _ _ _ _ _ _ _ _ _ _ _ _ _ _ _ _ _ _ _ _ _ _ _ _ _ _ _ _ _ _ _ _ _ _ _ _ _ _ _ _ _ _ _ _ _ _ xss Al cl (.pointer (some X)) dp w w2 st0 HS HL (Lib.hid HN.out.1) K2 (Lib.hid ?_) (Lib.hid ?_)
  · intro u4 u31 u32 u33 u34 u35 u36 u37 u38 u39 u40 u41 u42 u43 u44 u45 u46 u47 u48 u49 u50 u51 u52 u53 u54 u55 v3 st3 S w3 hb
    obtain ⟨hk, hof, hfu, hmo, hop⟩ := hb.out
    obtain ⟨m, hm⟩ : ∃ m, mostS S 0 256 = m := ⟨_, rfl⟩
    rw [hm] at hmo
    obtain ⟨T, hT, hmT, cT, fT, oT, vT, zT⟩ := scrub_is hof.calm hfu (img := us) (by have := HN.out.2; omega) hm (by omega)
    obtain ⟨U, hU, _, cU, _, _, vU, zU⟩ := scrub_is calm_new rfl (img := us) (by have := HN.out.2; omega) (most_new 0 256) (by decide)
    have HTU : Hid (Scrubbed T us ∧ Scrubbed U us ∧ Calm T ∧ T.fuse = 0 ∧ T.ops ≤ 2600 ∧ DOk U ∧ m ≤ 5) := Lib.hid ⟨scrubbed_of vT zT, scrubbed_of vU zU, cT, fT, by omega, cU.ok, hmo⟩
    have hsc := jk_scrub hk HS.out HU.out (by have := HN.out.2; omega) hof.calm.on (by rw [hm]; omega) (by omega) (by rw [hT])
    rw [hT, hmT] at hsc
    have HSC := Lib.hid hsc
    have HUU := Lib.hid hU
    clear hk hof hfu hmo hop hm hT hmT cT fT oT vT zT hU cU vU zU hsc hb K2
    go_wp2_with (fail)
    refine HSC.out.mono ?_
    rintro e w4 ⟨rfl, k4⟩
    have K4 : Hid (JKeep JC w (.pointer (some X)) dp ⟨true, m + 2, 0, 512⟩ T [] w4) := Lib.hid k4
    clear k4 HSC
    go_wp2_with (fail)
    refine (jk_new (DC := DC) w4).mono ?_
    rintro e w5 ⟨cp, rfl, k5⟩
    have K5 := Lib.hid k5
    clear k5
    go_wp2_with (fail)
    refine (jk_open (JC := JC) K5.out).mono ?_
    rintro e w6 ⟨Y, st6, rfl, _, k6⟩
    have hsc := jk_scrub k6 (HS.out.under K4.out.old HS.out.1) (HU.out.below K4.out.old) (by have := HN.out.2; omega) rfl (by rw [most_new]; decide) (by decide) (by rw [HUU.out])
    rw [HUU.out] at hsc
    have HSC := Lib.hid hsc
    clear k6 K5 hsc
    go_wp2_with (fail)
    refine HSC.out.mono ?_
    rintro e w7 ⟨rfl, k7⟩
    have KC7 := Lib.hid k7.disk
    have KD7 := Lib.hid (K4.out.on k7.old)
    clear k7 HSC K4
    go_wp2_with (fail)
    refine (jk_raw RC KD7.out.disk).mono ?_
    rintro e w8 ⟨ua, rfl, ra, b8⟩
    have RA8 := Lib.hid ra
    have KC8 := Lib.hid (KC7.out.on b8)
    have KD8 := Lib.hid (KD7.out.on b8)
    clear ra b8 KC7 KD7
    go_wp2_with (fail)
    refine (jk_raw RC KC8.out).mono ?_
    rintro e w9 ⟨ub, rfl, rb, b9⟩
    have RB9 := Lib.hid rb
    have RA9 := Lib.hid (RA8.out.below b9)
    have KD9 := Lib.hid (KD8.out.on b9)
    clear rb b9 KC8 KD8 RA8
    go_wp2_with (fail)
    refine jsb_loop _ _ _ _ _ _ _ _ _ _ _ _ _ _ _ _ _ _ _ _ _ _ _ _ _ _ _ _ _ _ _ _ _ _ _ _ _ _ _ _ _ _ _ _ _ _ _ _ _ _ _ _ _ _ _ _ _ _ _ _ _ _ _ _ _ _ _ _ _ _ _ _ _ _ _ _ _ _ _ _ _ _ _ _ _ _ _ _ _ _ _ _ _ _ _ _ _ _ _ _ _ _ _ _ _ _ _ _ _ _ _ _ _ (rawS T) (rawS U) ua ub w9 (Lib.hid ⟨rawJ_len HTU.out.2.2.1.ok, rawJ_len HTU.out.2.2.2.2.2.1⟩) RA9 RB9 (Lib.hid fun i hi h8 => scrub_raw HTU.out.2.2.1.ok HTU.out.2.2.2.2.2.1 HTU.out.1 HTU.out.2.1 hi h8) (Lib.hid ?_)
    intro u4 u15 u73 u74 u75 u76 u77 u78 u79 u80 u81 u82 u83 u84 u85 u86 u87 u88 u89 u90 u91 u92 u93 u94 u95 u96 u97 u98 u99 u100 u101 u102 u103 u104 u105 u106 u107 u108 v10 n10
    have KD10 := Lib.hid (KD9.out.on (below_drewN (Below.refl _ _) n10))
    obtain ⟨w10, hw10⟩ : ∃ w10, w10 = w9.drewN n10 := ⟨_, rfl⟩
    rw [← hw10] at KD10 ⊢
    clear hw10 KD9 RA9 RB9
    have hc := cntR_300 HN.out.2
    have hly := (layS_none (p := 512) (xs := partsR us (m + 2) 0) HTU.out.2.2.1.on HTU.out.2.2.2.1 (by rw [partsR_length]; omega) (append_short _ _ _)).1
    have hap := jk_append KD10.out HU.out (by have := HN.out.2; omega) (by omega) (by decide) (by have := HTU.out.2.2.2.2.2.2; omega) HTU.out.2.2.1.on (by have := HTU.out.2.2.2.2.1; omega)
    rw [hly] at hap
    have HAP := Lib.hid hap
    clear hc hly hap
    go_wp2_with (fail)
    refine HAP.out.mono ?_
    rintro e w11 ⟨rfl, st11, _, k11⟩
    have K11 := Lib.hid k11.old
    clear k11 HAP KD10
    go_wp2_with (fail)
    refine (awakeJ_any DC JC w11 (HS.out.under K11.out HS.out.1)).mono ?_
    rintro e w12 ⟨rfl, b12⟩
    have D12 := Lib.hid (K11.out.trans (b12.mono K11.out.size))
    clear b12
    go_wp2_with (fail)
    go_ret
    exact ⟨rfl, D12.out⟩
  · intro a W hr hd hb
    (try simp only [Exit.inBlock, Exit.then])
    refine bodyPost_ret (v := .bool true) ?_ hd ⟨rfl, hb⟩
    exact (results_tmp (by rfl) _ _ _).trans (by rw [hr])
theorem walkC (DC : DiskW) (JC : JournC DC) (RC : RawC DC) (v0 : Value) (xss : List (List UInt8)) (v1 : Value) (us : List UInt8) (w : World) (h0 : RsA w v0 xss) (h1 : Rd w v1 us) (hs : Salts w) : Calls Tryd.prog 4 #[v0, v1] w fun e w' => e = .returned (.bool true) ∧ Below w.heap.size w w' := by
  obtain ⟨Al, cl, rfl, m0, _⟩ := h0.ex
  obtain ⟨Au, cu, rfl, c1, m1, _⟩ := h1.form
  unfold maxLen at m0 m1
  by_cases g1 : 5 < xss.length
  · exact big0 DC JC Al cl xss Au cu us w (by omega) hs g1
  · by_cases g2 : 300 < us.length
    · exact big1 DC JC Al cl xss Au cu us w (by omega) (by omega) hs g1 g2
    · exact main DC JC RC Al cl xss Au cu us w (by omega) (by omega) hs h0 h1 g1 g2
end Go.Proofs.YtbodiioemohenaaDoor.journalScrubs
