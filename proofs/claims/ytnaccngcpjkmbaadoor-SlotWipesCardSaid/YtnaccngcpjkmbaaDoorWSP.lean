/- The walk of SlotWipes over contracts of the developers' disk and slot. Premises: the contracts; the fingerprint's table is laid. -/
import Derived.Test.YtnaccngcpjkmbaaDoorWSPC
namespace Go.Proofs.YtnaccngcpjkmbaaDoor.slotWipes
open Go.RowKit

theorem keep_wipe {DC : DiskW} {SC : SlotC DC} {w0 : World} {pp dp : Value} {S : DS} {u : Value} {ub : List UInt8} {W : World} (h : Keep SC w0 pp dp S u ub W) (hs : Salts w0) {v : Value} {bs : List UInt8} (hv : Rd w0 v bs) (hl : bs.length ≤ 600) (hd : S.dead = false) (hm : mostS S 0 6 < 1000000) (ho : S.ops < 100000) (he : (saveS fp8 S 0 6 bs true).2 = 0) :
    Calls Tryd.prog 15 #[pp, v] W fun e W' => ∃ n, e = .returned (.tuple #[n, .int .i64 ((saveS fp8 (saveS fp8 S 0 6 bs true).1 0 6 bs true).2 : Int)]) ∧ ((saveS fp8 (saveS fp8 S 0 6 bs true).1 0 6 bs true).2 = 0 → n = .int .u64 ((mostS (saveS fp8 S 0 6 bs true).1 0 6 + 1 : Nat) : Int)) ∧ Keep SC w0 pp dp (saveS fp8 (saveS fp8 S 0 6 bs true).1 0 6 bs true).1 u ub W' := by
  obtain ⟨F, h1, h2, h3, h4⟩ := h
  refine (SC.wipe h1.both (hs.under h2 hs.1) (fun j hj => Nat.lt_of_lt_of_le hs.1 (h1.new j hj)) (by decide) (by decide) v bs (hv.below h2) (old_apart h1 hv) (by omega) hd hm ho he).mono ?_
  rintro e W' ⟨n, rfl, hn, hb⟩
  exact ⟨n, rfl, hn, Keep.step h1 h2 h3 h4 hb⟩
theorem lay_q {v : Value} {us : List UInt8} {k : Nat} (q : Int) (hq : q = (k : Int)) (hk : k ≤ 1000) (hl : us.length ≤ 600) {W : World} (hr : Rd W v us) : Calls Tryd.prog 16 #[v, .int .u64 q] W fun e W' => ∃ A c, e = .returned (.slice A (cntS us.length) c) ∧ RsA W' (.slice A (cntS us.length) c) (laysB us k) ∧ Below W.heap.size W W' := by
  subst hq
  refine (refLay_any hr (by omega) (by omega)).mono ?_
  rintro e W' ⟨u, rfl, h1, h2⟩
  obtain ⟨A, c, rfl, _⟩ := h1.ex
  have e1 : (laysB us k).length = cntS us.length := by simp [laysB]
  rw [e1] at h1 ⊢
  exact ⟨A, c, rfl, h1, h2⟩
set_option maxRecDepth 100000 in
set_option maxHeartbeats 2000000 in
theorem big0 (DC : DiskW) (SC : SlotC DC) (Al : Option Addr) (cl : Nat) (xss : List (List UInt8)) (Au : Option Addr) (cu : Nat) (us : List UInt8) (w : World) (nI : (xss.length : Int) ≤ 9223372036854775807) (hs : Salts w) (h1 : 8 < xss.length) : Calls Tryd.prog 4 #[.slice Al xss.length cl, .slice Au us.length cu] w fun e w' => e = .returned (.bool true) ∧ Below w.heap.size w w' := by
  have g1 : decide ((8 : Int) < (xss.length : Int)) = true := decide_eq_true (by omega)
  have HS := Lib.hid hs
  clear hs h1
  go_enter Tryd.func4, Tryd.ntmps4
  go_wp2_with (fail)
  refine (awakeS_any DC SC w HS.out).mono ?_
  rintro e w1 ⟨rfl, b1⟩
  go_wp2_with (fail)
  go_ret
  exact ⟨rfl, b1⟩
set_option maxRecDepth 100000 in
set_option maxHeartbeats 2000000 in
theorem big1 (DC : DiskW) (SC : SlotC DC) (Al : Option Addr) (cl : Nat) (xss : List (List UInt8)) (Au : Option Addr) (cu : Nat) (us : List UInt8) (w : World) (nI : (xss.length : Int) ≤ 9223372036854775807) (uI : (us.length : Int) ≤ 9223372036854775807) (hs : Salts w) (h1 : ¬ 8 < xss.length) (h2 : 600 < us.length) : Calls Tryd.prog 4 #[.slice Al xss.length cl, .slice Au us.length cu] w fun e w' => e = .returned (.bool true) ∧ Below w.heap.size w w' := by
  have g1 : decide ((8 : Int) < (xss.length : Int)) = false := decide_eq_false (by omega)
  have g2 : decide ((600 : Int) < (us.length : Int)) = true := decide_eq_true (by omega)
  have HS := Lib.hid hs
  clear hs h1 h2
  go_enter Tryd.func4, Tryd.ntmps4
  go_wp2_with (fail)
  refine (awakeS_any DC SC w HS.out).mono ?_
  rintro e w1 ⟨rfl, b1⟩
  go_wp2_with (fail)
  go_ret
  exact ⟨rfl, b1⟩
set_option maxRecDepth 100000 in
set_option maxHeartbeats 4000000 in
theorem main (DC : DiskW) (SC : SlotC DC) (Al : Option Addr) (cl : Nat) (xss : List (List UInt8)) (Au : Option Addr) (cu : Nat) (us : List UInt8) (w : World) (nI : (xss.length : Int) ≤ 9223372036854775807) (uI : (us.length : Int) ≤ 9223372036854775807) (hs : Salts w) (hl : RsA w (.slice Al xss.length cl) xss) (hu : Rd w (.slice Au us.length cu) us) (h1 : ¬ 8 < xss.length) (h2 : ¬ 600 < us.length) : Calls Tryd.prog 4 #[.slice Al xss.length cl, .slice Au us.length cu] w fun e w' => e = .returned (.bool true) ∧ Below w.heap.size w w' := by
  have g1 : decide ((8 : Int) < (xss.length : Int)) = false := decide_eq_false (by omega)
  have g2 : decide ((600 : Int) < (us.length : Int)) = false := decide_eq_false (by omega)
  have HS := Lib.hid hs
  have HL := Lib.hid hl
  have HU := Lib.hid hu
  have HN : Hid (xss.length ≤ 8 ∧ us.length ≤ 600) := Lib.hid ⟨by omega, by omega⟩
  clear hs hl hu h1 h2
  go_enter Tryd.func4, Tryd.ntmps4
  go_wp2_with (fail)
  refine (DC.new w).mono ?_
  rintro e w1 ⟨dp, rfl, ⟨F1, h1, f1⟩, b1⟩
  have H1 := Lib.hid h1
  have F1b := Lib.hid f1
  have D1 := Lib.hid b1
  clear h1 f1 b1
  go_wp2_with (fail)
  refine (SC.opn H1.out 0 6 (by decide) (by decide) (by decide) (by decide) (by decide)).mono ?_
  rintro e w2 ⟨X, rfl, hG, b2⟩
  obtain ⟨F2, hp2⟩ := pair_made (SC := SC) H1.out F1b.out D1.out.size hG b2
  have hp2 : PairAt SC w.heap.size w2 (.pointer (some X)) dp 0 6 newS F2 := hp2
  have K2 : Hid (Keep SC w (.pointer (some X)) dp newS (.slice none 0 0) [] w2) := Lib.hid ⟨F2, hp2, D1.out.trans (b2.mono D1.out.size), Rd.nil _, fun h => by cases h⟩
  clear hG b2 hp2 H1 F1b D1 g1 g2
  go_wp2_with (fail)
  refine spa_loop DC SC _ _ _ _ _ _ _ _ _ _ _ _ _ _ _ _ _ _ _ _ _ _ _ _ _ _ _ _ _ _ _ _ _ _ _ _ _ _ _ _ _ _ _ _ _ _ _ _ _ _ _ _ _ _ _ _ _ _ _ _ _ _ _ _ _ _ _ _ _ _ _ _ _ _ _ _ _ _ _ _ _ _ _ _ _ _ _ _ _ _ _ _ _ _ _ _ _ _ _ _ _ _ _ _ _ _ _ _ _ _ _ _ _ _ _ _ _ _ _ _ _ _ _ _ _ xss Al cl X dp w w2 HS HL (Lib.hid HN.out.1) K2 (Lib.hid ?_) (Lib.hid ?_)
  · intro u4 u37 u38 u39 u40 u41 u42 u43 u44 u45 u46 u47 u48 u49 u50 u51 u52 u53 u54 u55 v S w3 hb
    obtain ⟨hk, hc, hf, hm, ho⟩ := hb.out
    obtain ⟨m, hmm⟩ : ∃ m, m = mostS S 0 6 := ⟨_, rfl⟩
    obtain ⟨S1, hS1⟩ : ∃ S1, S1 = (saveS fp8 S 0 6 us true).1 := ⟨_, rfl⟩
    obtain ⟨S2, hS2⟩ : ∃ S2, S2 = (saveS fp8 S1 0 6 us true).1 := ⟨_, rfl⟩
    have hw := wiped fp8_length hc hf (a := 0) (k := 6) (bs := us) (by decide) (by decide) (by have := HN.out.2; omega) (by omega) (S1 := S1) (S2 := S2) (e1 := (saveS fp8 S 0 6 us true).2) (e2 := (saveS fp8 S1 0 6 us true).2) (by rw [hS1]) (by rw [hS2])
    obtain ⟨q1, q2, _, _, q5, _, _, q8⟩ := hw
    have hkw := keep_wipe hk HS.out HU.out HN.out.2 hc.on (by omega) (by omega) q1
    rw [← hS1, ← hS2, q2, q5, ← hmm] at hkw
    rw [← hmm] at q8
    obtain ⟨n, hn⟩ : ∃ n, n = m + 1 + 1 := ⟨_, rfl⟩
    rw [← hn] at hkw
    have HT : Hid (Twice S2 us n (m + 1)) := Lib.hid (by rw [hn]; exact q8)
    have HKW := Lib.hid hkw
    have n2 : (2 : Int) ≤ (n : Int) := by omega
    have n9 : (n : Int) ≤ 1000 := by omega
    have e1 : IntKind.u64.wrap ((n : Int) - 1) = ((m + 1 : Nat) : Int) := by rw [IntWalk.u64_in _ (by omega), hn]; omega
    have HNM : Hid (n ≤ 1000 ∧ m + 1 ≤ 1000 ∧ ((n : Int) - 1 = ((m + 1 : Nat) : Int))) := Lib.hid ⟨by omega, by omega, by omega⟩
    clear hb hk hc hf hm ho hmm hS1 hS2 q1 q2 q5 q8 hkw hn K2
    go_wp2_with (fail)
    refine HKW.out.mono ?_
    rintro e w4 ⟨nv, rfl, hnv, hk4⟩
    obtain rfl := hnv trivial
    have K4 := Lib.hid hk4
    clear hnv hk4
    obtain ⟨lx, hlx⟩ : ∃ lx, lx = cntS us.length := ⟨_, rfl⟩
    have HLX : Hid (lx = cntS us.length ∧ lx ≤ 6) := Lib.hid ⟨hlx, by rw [hlx]; exact cntS_le (by have := HN.out.2; omega) (by decide)⟩
    have HLQ : Hid (∀ (q : Int) (k : Nat) (W : World), q = (k : Int) → k ≤ 1000 → Rd W (.slice Au us.length cu) us → Calls Tryd.prog 16 #[.slice Au us.length cu, .int .u64 q] W fun e W' => ∃ A c, e = .returned (.slice A lx c) ∧ RsA W' (.slice A lx c) (laysB us k) ∧ Below W.heap.size W W') := Lib.hid fun q k W hq hk hr => by
      rw [hlx]
      exact lay_q q hq hk HN.out.2 hr
    clear hlx
    go_wp2_with (fail)
    refine (HLQ.out _ n w4 rfl HNM.out.1 (HU.out.below K4.out.old)).mono ?_
    rintro e w5 ⟨Ax, cx, rfl, rx, b5⟩
    have RX := Lib.hid rx
    have B5 := Lib.hid b5
    clear rx b5
    go_wp2_with (fail)
    refine (HLQ.out _ (m + 1) w5 (by first | exact HNM.out.2.2 | rfl) HNM.out.2.1 ((HU.out.below K4.out.old).below B5.out)).mono ?_
    rintro e w6 ⟨Ay, cy, rfl, ry, b6⟩
    have A6 : Hid (SpcAt SC w (.pointer (some X)) dp S2 (.slice Ax lx cx) (.slice Ay lx cy) us n (m + 1) w6) := Lib.hid ⟨(K4.out.on B5.out).on b6, RX.out.below b6, ry⟩
    clear ry b6 RX B5
    go_wp2_with (fail)
    refine spd_loop DC SC _ _ _ _ _ _ _ _ _ _ _ _ _ _ _ _ _ _ _ _ _ _ _ _ _ _ _ _ _ _ _ _ _ _ _ _ _ _ _ _ _ _ _ _ _ _ _ _ _ _ _ _ _ _ _ _ _ _ _ _ _ _ _ _ _ _ _ _ _ _ _ _ _ _ _ _ _ _ _ _ _ _ _ _ _ _ _ _ _ _ _ _ _ _ _ _ _ _ _ _ _ _ _ _ _ _ _ _ _ _ _ _ _ _ _ _ _ _ _ _ _ _ _ _ S2 Ax Ay cx cy lx us n (m + 1) (.pointer (some X)) dp w w6 HLX HT A6 (Lib.hid ?_)
    intro u15 u16 u17 u18 u19 u20 u21 u75 u76 u77 u78 u79 u80 u81 u82 u83 u84 u85 u86 u87 u88 u89 u90 u91 u92 u93 u94 u95 u96 u97 u98 u99 u100 u101 u102 u103 u104 u105 u106 u107 u108 u109 u110 u111 u112 u113 u114 u115 u116 u117 u118 u119 u120 u121 u122 u123 v' w7 hs7
    have O7 := Lib.hid hs7.out.keep.old
    clear hs7
    go_wp2_with (fail)
    refine (awakeS_any DC SC w7 (HS.out.under O7.out HS.out.1)).mono ?_
    rintro e w8 ⟨rfl, b8⟩
    have D8 := Lib.hid (O7.out.trans (b8.mono O7.out.size))
    clear b8
    go_wp2_with (fail)
    go_ret
    exact ⟨rfl, D8.out⟩
  · intro a W hr hd hb
    (try simp only [Exit.inBlock, Exit.then])
    refine bodyPost_ret (v := .bool true) ?_ hd ⟨rfl, hb⟩
    exact (results_tmp (by rfl) _ _ _).trans (by rw [hr])
theorem walkC (DC : DiskW) (SC : SlotC DC) (v0 : Value) (xss : List (List UInt8)) (v1 : Value) (us : List UInt8) (w : World) (h0 : RsA w v0 xss) (h1 : Rd w v1 us) (hs : Salts w) : Calls Tryd.prog 4 #[v0, v1] w fun e w' => e = .returned (.bool true) ∧ Below w.heap.size w w' := by
  obtain ⟨Al, cl, rfl, m0, _⟩ := h0.ex
  obtain ⟨Au, cu, rfl, c1, m1, _⟩ := h1.form
  unfold maxLen at m0 m1
  by_cases g1 : 8 < xss.length
  · exact big0 DC SC Al cl xss Au cu us w (by omega) hs g1
  · by_cases g2 : 600 < us.length
    · exact big1 DC SC Al cl xss Au cu us w (by omega) (by omega) hs g1 g2
    · exact main DC SC Al cl xss Au cu us w (by omega) (by omega) hs h0 h1 g1 g2
end Go.Proofs.YtnaccngcpjkmbaaDoor.slotWipes
