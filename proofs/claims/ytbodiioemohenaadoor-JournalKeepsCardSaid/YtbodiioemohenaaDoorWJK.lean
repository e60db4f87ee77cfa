/- The walk of JournalKeeps over contracts of the developers' disk and journal. Premises: the contracts; the fingerprint's table is laid. -/
import Derived.Test.YtbodiioemohenaaDoorWJKB
namespace Go.Proofs.YtbodiioemohenaaDoor.journalKeeps
open Go.RowKit

set_option maxRecDepth 100000 in
set_option maxHeartbeats 2000000 in
theorem big0 (DC : DiskW) (JC : JournC DC) (Al : Option Addr) (cl : Nat) (xss : List (List (List UInt8))) (Au : Option Addr) (cu : Nat) (us : List UInt8) (Af : Option Addr) (cf : Nat) (fs : List UInt8) (w : World) (nI : (xss.length : Int) ≤ 9223372036854775807) (hs : Salts w) (h1 : 6 < xss.length) : Calls Tryd.prog 3 #[.slice Al xss.length cl, .slice Au us.length cu, .slice Af fs.length cf] w fun e w' => e = .returned (.bool true) ∧ Below w.heap.size w w' := by
  have g1 : decide ((6 : Int) < (xss.length : Int)) = true := decide_eq_true (by omega)
  have HS := Lib.hid hs
  clear hs h1
  go_enter Tryd.func3, Tryd.ntmps3
  go_wp2_with (fail)
  refine (awakeJ_any DC JC w HS.out).mono ?_
  rintro e w1 ⟨rfl, b1⟩
  go_wp2_with (fail)
  go_ret
  exact ⟨rfl, b1⟩
set_option maxRecDepth 100000 in
set_option maxHeartbeats 2000000 in
theorem big1 (DC : DiskW) (JC : JournC DC) (Al : Option Addr) (cl : Nat) (xss : List (List (List UInt8))) (Au : Option Addr) (cu : Nat) (us : List UInt8) (Af : Option Addr) (cf : Nat) (fs : List UInt8) (w : World) (nI : (xss.length : Int) ≤ 9223372036854775807) (uI : (us.length : Int) ≤ 9223372036854775807) (hs : Salts w) (h1 : ¬ 6 < xss.length) (h2 : 8 < us.length) : Calls Tryd.prog 3 #[.slice Al xss.length cl, .slice Au us.length cu, .slice Af fs.length cf] w fun e w' => e = .returned (.bool true) ∧ Below w.heap.size w w' := by
  have g1 : decide ((6 : Int) < (xss.length : Int)) = false := decide_eq_false (by omega)
  have g2 : decide ((8 : Int) < (us.length : Int)) = true := decide_eq_true (by omega)
  have HS := Lib.hid hs
  clear hs h1 h2
  go_enter Tryd.func3, Tryd.ntmps3
  go_wp2_with (fail)
  refine (awakeJ_any DC JC w HS.out).mono ?_
  rintro e w1 ⟨rfl, b1⟩
  go_wp2_with (fail)
  go_ret
  exact ⟨rfl, b1⟩
set_option maxRecDepth 100000 in
set_option maxHeartbeats 2000000 in
theorem big2 (DC : DiskW) (JC : JournC DC) (Al : Option Addr) (cl : Nat) (xss : List (List (List UInt8))) (Au : Option Addr) (cu : Nat) (us : List UInt8) (Af : Option Addr) (cf : Nat) (fs : List UInt8) (w : World) (nI : (xss.length : Int) ≤ 9223372036854775807) (uI : (us.length : Int) ≤ 9223372036854775807) (fI : (fs.length : Int) ≤ 9223372036854775807) (hs : Salts w) (h1 : ¬ 6 < xss.length) (h2 : ¬ 8 < us.length) (h3 : 20 < fs.length) : Calls Tryd.prog 3 #[.slice Al xss.length cl, .slice Au us.length cu, .slice Af fs.length cf] w fun e w' => e = .returned (.bool true) ∧ Below w.heap.size w w' := by
  have g1 : decide ((6 : Int) < (xss.length : Int)) = false := decide_eq_false (by omega)
  have g2 : decide ((8 : Int) < (us.length : Int)) = false := decide_eq_false (by omega)
  have g3 : decide ((20 : Int) < (fs.length : Int)) = true := decide_eq_true (by omega)
  have HS := Lib.hid hs
  clear hs h1 h2 h3
  go_enter Tryd.func3, Tryd.ntmps3
  go_wp2_with (fail)
  refine (awakeJ_any DC JC w HS.out).mono ?_
  rintro e w1 ⟨rfl, b1⟩
  go_wp2_with (fail)
  go_ret
  exact ⟨rfl, b1⟩
set_option maxRecDepth 100000 in
set_option maxHeartbeats 4000000 in
theorem main (DC : DiskW) (JC : JournC DC) (Al : Option Addr) (cl : Nat) (xss : List (List (List UInt8))) (Au : Option Addr) (cu : Nat) (us : List UInt8) (Af : Option Addr) (cf : Nat) (fs : List UInt8) (w : World) (nI : (xss.length : Int) ≤ 9223372036854775807) (uI : (us.length : Int) ≤ 9223372036854775807) (fI : (fs.length : Int) ≤ 9223372036854775807) (hs : Salts w) (hl : RsB w (.slice Al xss.length cl) xss) (hu : Rd w (.slice Au us.length cu) us) (hf : Rd w (.slice Af fs.length cf) fs) (h1 : ¬ 6 < xss.length) (h2 : ¬ 8 < us.length) (h3 : ¬ 20 < fs.length) : Calls Tryd.prog 3 #[.slice Al xss.length cl, .slice Au us.length cu, .slice Af fs.length cf] w fun e w' => e = .returned (.bool true) ∧ Below w.heap.size w w' := by
  have g1 : decide ((6 : Int) < (xss.length : Int)) = false := decide_eq_false (by omega)
  have g2 : decide ((8 : Int) < (us.length : Int)) = false := decide_eq_false (by omega)
  have g3 : decide ((20 : Int) < (fs.length : Int)) = false := decide_eq_false (by omega)
  have HS := Lib.hid hs
  have HL := Lib.hid hl
  have HU := Lib.hid hu
  have HF := Lib.hid hf
  have HN : Hid (xss.length ≤ 6 ∧ us.length ≤ 8 ∧ fs.length ≤ 20) := Lib.hid ⟨by omega, by omega, by omega⟩
  clear hs hl hu hf h1 h2 h3
  go_enter Tryd.func3, Tryd.ntmps3
  go_wp2_with (fail)
  refine (jk_new (DC := DC) w).mono ?_
  rintro e w1 ⟨dp, rfl, k1⟩
  obtain ⟨F1, f1, f2, f3, _⟩ := k1
  have K1 : Hid (DKeep DC w dp newS [(.slice none 0 0, [])] w1) := Lib.hid ⟨F1, f1, f2, f3, fun q hq => by
    rw [List.mem_singleton.1 hq]
    exact ⟨Rd.nil _, fun h => by cases h⟩⟩
  clear f1 f2 f3
  go_wp2_with (fail)
  refine jkb_loop DC JC _ _ _ _ _ _ _ _ _ _ _ _ _ _ _ _ _ _ _ _ _ _ _ _ _ _ _ _ _ _ _ _ _ _ _ _ _ _ _ _ _ _ _ _ _ _ _ _ _ _ _ _ _ _ _ _ _ _ _ _ _ _ _ _ _ _ _ _ _ _ _ _ _ _ _ _ _ _ _ _ _ _ _ _ _ _ _ _ _ _ _ _ _ _ _ _ _ _ _ _ _ _ _ _ _ _ _ _ _ _ _ _ _ _ _ _ _ _ _ _ _ _ _ _ _ _ _ _ _ _ _ _ _ _ _ _ _ _ _ _ _ _ _ _ _ _ _ _ _ _ _ _ _ _ _ _ _ _ _ _ _ _ _ _ _ _ _ _ _ _ _ _ _ _ _ _ _ _ _ _ _ _ _ _ _ _ _ _ _ _ _ _ _ _ _ _ _ _ xss Al cl us Au cu fs (.slice Af fs.length cf) dp w w1 HS HL HU HF HN K1 (Lib.hid ?_) (Lib.hid ?_)
  · intro u6 u11 u12 u13 u14 u15 u16 u17 u18 u19 u20 u21 u22 u38 u39 u40 u41 u42 u43 u44 u45 u46 u47 u48 u49 u50 u51 u52 u53 u54 u55 u56 u57 u58 u59 u60 u61 u62 u63 u64 u65 u66 u67 u68 u69 u70 u71 u72 u73 u74 u75 u76 u77 u78 u79 u80 u81 u82 u83 u84 u85 u86 u87 u88 u89 u90 u91 u92 u93 u94 u95 u96 u97 u98 u99 u100 u101 u102 u103 u104 u105 u106 u107 u108 u109 u110 u111 u112 u113 u114 u115 u116 u117 u118 u119 u120 u121 u122 u123 u124 u125 u126 u127 u128 u129 u130 u131 u132 u133 u134 u135 u136 u137 u138 u139 u140 u141 u142 u143 u144 u145 u146 u147 u148 u149 u150 u151 u152 u153 u154 u155 u156 u157 u158 u159 u160 u161 u162 u163 u164 u165 u166 u167 u168 u169 u170 u171 u172 u173 u174 u175 u176 u177 u178 u179 u180 u181 u182 u183 u184 u185 u186 u187 u188 u189 u190 u191 u192 u193 u194 u195 u196 u197 u198 u199 u200 u201 u202 u203 v1 v2 v3 w3 HB
    clear K1
    go_wp2_with (fail)
    refine (awakeJ_any DC JC w3 (HS.out.under HB.out HS.out.1)).mono ?_
    rintro e w4 ⟨rfl, b4⟩
    have D4 := Lib.hid (HB.out.trans (b4.mono HB.out.size))
    clear b4
    go_wp2_with (fail)
    go_ret
    exact ⟨rfl, D4.out⟩
  · intro a W hr hd hb
    (try simp only [Exit.inBlock, Exit.then])
    refine bodyPost_ret (v := .bool true) ?_ hd ⟨rfl, hb⟩
    exact (results_tmp (by rfl) _ _ _).trans (by rw [hr])
theorem walkC (DC : DiskW) (JC : JournC DC) (v0 : Value) (xss : List (List (List UInt8))) (v1 : Value) (us : List UInt8) (v2 : Value) (fs : List UInt8) (w : World) (h0 : RsB w v0 xss) (h1 : Rd w v1 us) (h2 : Rd w v2 fs) (hs : Salts w) : Calls Tryd.prog 3 #[v0, v1, v2] w fun e w' => e = .returned (.bool true) ∧ Below w.heap.size w w' := by
  obtain ⟨Al, cl, rfl, m0, _⟩ := h0.ex
  obtain ⟨Au, cu, rfl, c1, m1, _⟩ := h1.form
  obtain ⟨Af, cf, rfl, c2, m2, _⟩ := h2.form
  unfold maxLen at m0 m1 m2
  by_cases g1 : 6 < xss.length
  · exact big0 DC JC Al cl xss Au cu us Af cf fs w (by omega) hs g1
  · by_cases g2 : 8 < us.length
    · exact big1 DC JC Al cl xss Au cu us Af cf fs w (by omega) (by omega) hs g1 g2
    · by_cases g3 : 20 < fs.length
      · exact big2 DC JC Al cl xss Au cu us Af cf fs w (by omega) (by omega) (by omega) hs g1 g2 g3
      · exact main DC JC Al cl xss Au cu us Af cf fs w (by omega) (by omega) (by omega) hs h0 h1 h2 g1 g2 g3
end Go.Proofs.YtbodiioemohenaaDoor.journalKeeps
