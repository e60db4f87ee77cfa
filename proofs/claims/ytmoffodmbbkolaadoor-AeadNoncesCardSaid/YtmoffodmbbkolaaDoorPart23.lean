/- Part 23 of the words that the laws share: RTag. No condition of its own: each theorem says its own. -/
import Derived.Test.YtmoffodmbbkolaaDoorPart6
import Derived.Test.YtmoffodmbbkolaaDoorPart11
import Derived.Test.YtmoffodmbbkolaaDoorPart21
import Derived.Test.YtmoffodmbbkolaaDoorPart22
import Derived.Test.YtmoffodmbbkolaaDoorPart5

/- The contract of the fifth reference's Tag. Conditions: a key of 32 bytes, at most 1000000 bytes. -/
namespace Go.Proofs.YtmoffodmbbkolaaDoor
open Go.RowKit

theorem rN_lt {k : List UInt8} (h : k.length = 32) : rN k < 8192 ^ 11 := by
  have h1 := numB_lt (rB k)
  rw [rB_length h] at h1
  have h2 : (256 : Nat) ^ 16 < 8192 ^ 11 := by decide
  unfold rN
  omega
theorem tag_of {k m : List UInt8} {P : Nat} (h : P = polyN (rN k) m (blksN m)) : leB 16 (P + sN k) = tagB k m := by
  unfold tagB tagN
  rw [← h, ← leB_mod]
set_option maxRecDepth 100000 in
set_option maxHeartbeats 4000000 in
theorem refTag_any (k : List UInt8) (v : Value) (m : List UInt8) (w : World) (hk : k.length = 32) (h : Rd w v m) (hl : m.length ≤ 1000000) :
    Calls Tryd.prog 24 #[arrV k, v] w fun e w' => e = .returned (arrV (tagB k m)) ∧ Below w.heap.size w w' := by
  obtain ⟨i3, q0, q1, q2, q3⟩ := info_parts info_u64
  have HKL := Lib.hid hk
  obtain ⟨W0, hW0⟩ : ∃ W : World, W = (w.alloc (.cells (k.map bv).toArray 22)).alloc (.cells (List.replicate 16 (Value.int .u8 0)).toArray 48) := ⟨_, rfl⟩
  have S0 : Hid (W0.heap.size = w.heap.size + 1 + 1) := Lib.hid (by rw [hW0]; simp)
  have D0 : Hid (Below w.heap.size w W0) := Lib.hid (by rw [hW0]; exact (((Below.refl _ _).alloc (Nat.le_refl _) _).alloc (by simp) _))
  have K0 : Hid (Blk W0 w.heap.size 22 (k.map bv)) := Lib.hid (by rw [hW0]; exact (Blk.made w _ _).alloc _)
  have R0 : Hid (Blk W0 (w.heap.size + 1) 48 (List.replicate 16 (Value.int .u8 0))) := Lib.hid (by
    have h := Blk.made (w.alloc (.cells (k.map bv).toArray 22)) 48 (List.replicate 16 (Value.int .u8 0))
    rw [World.size_alloc] at h
    rw [hW0]
    exact h)
  have M0 := Lib.hid (h.below D0.out)
  have HI : Hid ((Tryd.prog.info? 48).map (·.size) = some 16) := by show _ = _; kernel_rfl
  clear hk h
  subst hW0
  unfold arrV
  go_enter Tryd.func24, Tryd.ntmps24
  go_wp2_with (refine Go.Great.wpList_boxTo rfl _ _ rfl _ rfl w.heap.size rfl ((k.map bv).toArray) rfl ?_)
  refine clm_loop _ _ _ _ _ _ _ _ _ _ _ _ _ _ _ _ _ _ _ _ _ _ _ _ _ _ _ _ _ _ _ _ _ _ _ _ _ _ _ _ _ _ _ _ _ _ _ _ _ _ _ _ _ _ _ _ _ _ _ _ _ _ _ _ _ _ _ _ _ _ _ _ _ _ _ _ _ _ _ _ _ _ _ _ _ _ _ _ _ _ _ _ _ _ _ _ _ _ _ _ _ _ _ _ _ _ _ _ _ _ _ _ _ _ _ _ _ _ _ _ _ _ _ _ _ _ _ _ _ _ _ _ _ _ _ _ _ _ _ _ _ _ _ _ _ _ _ _ _ _ _ _ _ _ _ _ _ _ _ _ _ _ _ _ _ _ _ _ _ _ _ _ _ _ _ _ _ _ _ _ _ _ _ _ _ _ _ _ w.heap.size 22 k _ HKL K0 (Lib.hid ?_)
  intro u6 u7 u24 u25 u26 u27 u28 u29 u30 u31 u32 u33 u34 u35 u36 u37 u38 u39 u40 u41 u42 u43 u44 u45 u46 u47 u48 u49 rv w1 own1 hb1
  have D1 : Hid (Below w.heap.size w w1) := Lib.hid (D0.out.trans (hb1.out.mono D0.out.size))
  have T0 : Hid (w.heap.size + 1 + 1 ≤ w1.heap.size) := Lib.hid (by have := hb1.out.size; have := S0.out; omega)
  have K1 := Lib.hid (K0.out.below hb1.out K0.out.lt)
  have R1 := Lib.hid (R0.out.below hb1.out R0.out.lt)
  have M1 := Lib.hid (M0.out.below hb1.out)
  have RR := Lib.hid (Rd.of_own (own1.out))
  clear own1 hb1 K0 R0 M0 D0 S0
  go_wp2_with (fail)
  refine (digits_any rv (rB k) _ RR.out (by rw [rB_length HKL.out]; omega)).mono ?_
  rintro e2 w2 ⟨F, rfl, hF, hblF, hb2⟩
  have D2 : Hid (Below w.heap.size w w2) := Lib.hid (D1.out.trans (hb2.mono D1.out.size))
  have T2 : Hid (w.heap.size + 1 + 1 ≤ w2.heap.size) := Lib.hid (Nat.le_trans T0.out hb2.size)
  have K2 := Lib.hid (K1.out.below hb2 K1.out.lt)
  have R2 := Lib.hid (R1.out.below hb2 R1.out.lt)
  have M2 := Lib.hid (M1.out.below hb2)
  have F2 : Hid (Blk w2 F 39 ((dg 11 (rN k)).map wq)) := Lib.hid hblF
  clear hblF hb2 hF K1 R1 M1 D1 RR T0
  go_wp2_with (at_make
               refine wpList_make_full _ rfl _ _ _ rfl w2.heap.size 39 i3 _ 1 Tryd.underlying69 q0 q1 q2 _ _ _ _ 10 rfl rfl ?_ ?_ ?_ ?_ (Nat.le_refl _) ?_
               · rfl
               · rfl
               · rw [q3]; omega
               · unfold maxLen; omega
               intro w3 own3 g3
               have b3 : Below w2.heap.size w2 w3 := (Below.refl _ _).grown g3 (Nat.le_refl _) (fun k h => by cases h)
               have hb := blk_of_own own3
               rw [made_one rfl] at hb
               have Z3 : Hid (Blk w3 w2.heap.size 39 ((List.replicate 10 0).map wq)) := Lib.hid (by rw [List.map_replicate]; exact hb)
               have D3 : Hid (Below w.heap.size w w3) := Lib.hid (D2.out.trans (b3.mono D2.out.size))
               have T3 : Hid (w.heap.size + 1 + 1 ≤ w3.heap.size) := Lib.hid (Nat.le_trans T2.out b3.size)
               have K3 := Lib.hid (K2.out.below b3 K2.out.lt)
               have R3 := Lib.hid (R2.out.below b3 R2.out.lt)
               have M3 := Lib.hid (M2.out.below b3)
               have F3 := Lib.hid (F2.out.below b3 F2.out.lt)
               clear hb own3 g3 b3 K2 R2 M2 F2 D2 T2)
  have ST0 : Hid (BlkS w3 (rN k) m (.slice (some ⟨w2.heap.size, 0, none⟩) 10 10) 0 (List.replicate 10 0) w3) := Lib.hid ⟨by
    have h := rq_of_blk Z3.out 10 (by simp) (by unfold maxLen; omega)
    rw [List.length_replicate] at h
    exact h, by simp, fun x hx => by rw [List.eq_of_mem_replicate hx]; omega, by rw [dv_zeros]; rfl, Below.refl _ _⟩
  refine blk_loop _ _ _ _ _ _ _ _ _ _ _ _ _ _ _ _ _ _ _ _ _ _ _ _ _ _ _ _ _ _ _ _ _ _ _ _ _ _ _ _ _ _ _ _ _ _ _ _ _ _ _ _ _ _ _ _ _ _ _ _ _ _ _ _ _ _ _ _ _ _ _ _ _ _ _ _ _ _ _ _ _ _ _ _ _ _ _ _ _ _ _ _ _ _ _ _ _ _ _ _ _ _ _ _ _ _ _ _ _ _ _ _ _ _ _ _ _ _ _ _ _ _ _ _ _ _ _ _ _ _ _ _ _ _ _ _ _ _ _ _ _ _ _ _ _ _ _ _ _ _ _ _ _ _ _ _ _ _ _ _ _ _ _ _ _ _ _ _ _ _ _ _ _ _ _ _ _ _ _ _ _ _ _ _ _ _ _ v m F (rN k) _ w3 M3 hl (Lib.hid (rN_lt HKL.out)) F3 ST0 (Lib.hid ?_)
  intro u10 u11 u12 u13 u14 u15 u16 u17 u53 u54 u55 u56 u57 u58 u59 u60 u61 u62 u63 u64 u65 u66 u67 u68 u69 u70 u71 u72 u73 u74 u75 u76 u77 u78 u79 u80 u81 u82 u83 u84 u85 u86 u87 u88 u89 u90 u91 u92 u93 u94 u95 u96 u97 u98 u99 u100 u101 u102 u103 u104 u105 u106 u107 u108 u109 u110 u111 u112 u113 u114 u115 u116 u117 u118 u119 u120 u121 u122 u123 u124 u125 u126 u127 u128 u129 u130 u131 u132 u133 u134 u135 u136 u137 u138 u139 u140 u141 u142 u143 vh hs w4 st4
  have D4 : Hid (Below w.heap.size w w4) := Lib.hid (D3.out.trans (st4.out.below.mono D3.out.size))
  have T4 : Hid (w.heap.size + 1 + 1 ≤ w4.heap.size) := Lib.hid (Nat.le_trans T3.out st4.out.below.size)
  have K4 := Lib.hid (K3.out.below st4.out.below K3.out.lt)
  have R4 := Lib.hid (R3.out.below st4.out.below R3.out.lt)
  clear K3 R3 M3 F3 D3 T3 Z3 ST0
  go_wp2_with (fail)
  refine (even_any vh hs _ st4.out.rq (by rw [st4.out.len]; omega) (fun x hx => by have := st4.out.small x hx; omega)).mono ?_
  rintro e5 w5 ⟨L, low, rfl, hLs, hbl5, hll, hls, hlv, hb5⟩
  have D5 : Hid (Below w.heap.size w w5) := Lib.hid (D4.out.trans (hb5.mono D4.out.size))
  have T5 : Hid (w.heap.size + 1 + 1 ≤ w5.heap.size) := Lib.hid (Nat.le_trans T4.out hb5.size)
  have K5 := Lib.hid (K4.out.below hb5 K4.out.lt)
  have R5 := Lib.hid (R4.out.below hb5 R4.out.lt)
  have RQ5 : Hid (Rq w5 (.slice (some ⟨L, 0, none⟩) 10 10) low) := Lib.hid (by
    have h := rq_of_blk hbl5 10 (by rw [hll]; omega) (by unfold maxLen; omega)
    rw [hll] at h
    exact h)
  have LL := Lib.hid hll
  have LS := Lib.hid hls
  have LV : Hid (dv low % p130 = polyN (rN k) m (blksN m)) := Lib.hid (by rw [hlv, st4.out.val])
  clear hLs hbl5 hll hls hlv hb5 K4 R4 D4 T4 st4
  go_wp2_with (fail)
  refine (least_any _ low _ RQ5.out LL.out LS.out).mono ?_
  rintro e6 w6 ⟨v6, out, rfl, hq6, hol, hos, hov, hb6⟩
  have D6 : Hid (Below w.heap.size w w6) := Lib.hid (D5.out.trans (hb6.mono D5.out.size))
  have T6 : Hid (w.heap.size + 1 + 1 ≤ w6.heap.size) := Lib.hid (Nat.le_trans T5.out hb6.size)
  have K6 := Lib.hid (K5.out.below hb6 K5.out.lt)
  have R6 := Lib.hid (R5.out.below hb6 R5.out.lt)
  obtain ⟨H, ch, rfl, hch1, hch2, hHl, hHc⟩ := hq6
  rw [hol] at hch1 hHc ⊢
  have HO := Lib.hid (tag_of (k := k) (m := m) (P := dv out) (by rw [hov, LV.out]))
  have OL := Lib.hid hol
  have OS := Lib.hid hos
  have D7 : Hid (Below w.heap.size w (w6.alloc (.cells (List.replicate 16 (Value.int .u8 0)).toArray 48))) := Lib.hid (D6.out.alloc D6.out.size _)
  have K7 := Lib.hid (K6.out.alloc (.cells (List.replicate 16 (Value.int .u8 0)).toArray 48))
  have R7 := Lib.hid (R6.out.alloc (.cells (List.replicate 16 (Value.int .u8 0)).toArray 48))
  have HC7 : Hid (∀ i, i < 10 → (w6.alloc (.cells (List.replicate 16 (Value.int .u8 0)).toArray 48)).cell? ⟨H, i, none⟩ = some (.int .u64 ((out.getD i 0 : Nat) : Int))) := Lib.hid fun i hi => (World.cell?_alloc_lt w6 _ _ hHl).trans (hHc i hi)
  have O7 : Hid (Blk (w6.alloc (.cells (List.replicate 16 (Value.int .u8 0)).toArray 48)) w6.heap.size 48 ((row16 (dv out + sN k) 0).map bv)) := Lib.hid (by
    have h := Blk.made w6 48 (List.replicate 16 (Value.int .u8 0))
    exact h)
  have NE1 : Hid (H ≠ w6.heap.size) := Lib.hid (by omega)
  clear hol hos hov hb6 hHc hHl RQ5 LL LS LV D5 T5 K5 R5 D6 K6 R6
  go_wp2_with (fail)
  refine ouo_loop _ _ _ _ _ _ _ _ _ _ _ _ _ _ _ _ _ _ _ _ _ _ _ _ _ _ _ _ _ _ _ _ _ _ _ _ _ _ _ _ _ _ _ _ _ _ _ _ _ _ _ _ _ _ _ _ _ _ _ _ _ _ _ _ _ _ _ _ _ _ _ _ _ _ _ _ _ _ _ _ _ _ _ _ _ _ _ _ _ _ _ _ _ _ _ _ _ _ _ _ _ _ _ _ _ _ _ _ _ _ _ _ _ _ _ _ _ _ _ _ _ _ _ _ _ _ _ _ _ _ _ _ _ _ _ _ _ _ _ _ _ _ _ _ _ _ _ _ _ _ _ _ _ _ _ _ _ _ _ _ _ _ _ _ _ _ _ _ _ _ _ _ _ _ _ _ _ _ _ _ _ _ _ _ _ _ H ch w.heap.size w6.heap.size 22 48 out k _ OL OS HKL HC7 K7 NE1.out (by have := T6.out; omega) O7 (Lib.hid ?_)
  intro u19 u20 u21 u22 u23 u147 u148 u149 u150 u151 u152 u153 u154 u155 u156 u157 u158 u159 u160 u161 u162 u163 u164 u165 u166 u167 u168 u169 u170 u171 u172 u173 u174 u175 u176 u177 u178 u179 u180 u181 u182 u183 u184 u185 u186 u187 u188 u189 w8 hb8 hs8
  have D8 := Lib.hid (D7.out.trans (hs8.out.below.mono (by have := T6.out; omega)))
  have R8 := Lib.hid (hs8.out.blk R7.out (by have := T6.out; omega))
  have HB8 := hb8.out
  rw [HO.out] at HB8
  have HB := Lib.hid HB8
  have HLN : Hid (((tagB k m).map bv).length = 16) := Lib.hid (by rw [List.length_map, tagB_length])
  clear HB8 hb8 O7 HC7 K7 R7
  go_wp2_with (first
    | (refine wpList_load_blk rfl 48 _ rfl w6.heap.size rfl 48 ((tagB k m).map bv) _ HB.out Tryd.underlying48 rfl (by rw [HLN.out]; exact HI.out) ?_)
    | (refine wpList_store_blk rfl 48 _ _ rfl (w.heap.size + 1) 48 _ R8.out ((tagB k m).map bv) rfl rfl (by rw [HLN.out]; rfl) (by rw [HLN.out]; exact HI.out) (bv_one _) ?_; intro w9 hb9 hs9))
  refine bodyPost_ret (v := arrV (tagB k m)) ?_ rfl ⟨rfl, ?_⟩
  · exact results_blk (ty := 48) Tryd.results24 _ w9 (w.heap.size + 1) 48 ((tagB k m).map bv) _ rfl hb9 Tryd.underlying48 rfl (by rw [HLN.out]; exact HI.out)
  · exact D8.out.trans (hs9.below.mono (Nat.le_succ _))
end Go.Proofs.YtmoffodmbbkolaaDoor
