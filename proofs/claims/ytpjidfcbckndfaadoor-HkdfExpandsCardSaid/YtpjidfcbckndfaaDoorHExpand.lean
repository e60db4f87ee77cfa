/- The contract of hkdf's Expand: the first n bytes of the published blocks, or a refusal. Conditions: at most 800000 bytes each; the table of the rounds as it is laid. -/
import Derived.Test.YtpjidfcbckndfaaDoorCode
import Derived.Test.YtpjidfcbckndfaaDoorRefExpand
import Derived.Test.YtpjidfcbckndfaaDoorLent
import Derived.Deep.RegionLaw
namespace Go.Proofs.YtpjidfcbckndfaaDoor
open Go.RowKit

/-- The first n bytes behind j rounds, noughts behind. -/
def fillB (key info : List UInt8) (n j : Nat) : List UInt8 := (outB key info j).take n ++ List.replicate (n - 32 * j) 0
theorem fillB_length (key info : List UInt8) (n j : Nat) : (fillB key info n j).length = n := by
  rw [fillB, List.length_append, List.length_take, outB_length, List.length_replicate]; omega
theorem fillB_step (key info : List UInt8) {n j m : Nat} (h : 32 * j < n) (hm : m = min 32 (n - 32 * j)) : splice (fillB key info n j) (32 * j) ((tB key info (j + 1)).take m) = fillB key info n (j + 1) := by
  have l1 := outB_length key info j
  have l2 := tB_succ_length key info j
  have e1 : (tB key info (j + 1)).take m = (tB key info (j + 1)).take (n - 32 * j) := by
    rcases Nat.le_total 32 (n - 32 * j) with h1 | h1
    · rw [List.take_of_length_le (by omega), List.take_of_length_le (by omega)]
    · rw [show m = n - 32 * j by omega]
  have l3 : ((tB key info (j + 1)).take m).length = m := by rw [List.length_take]; omega
  unfold splice fillB
  rw [List.take_of_length_le (l := outB key info j) (by omega), List.take_append_of_le_length (by omega), List.take_of_length_le (l := outB key info j) (by omega), l3]
  rw [List.drop_append, l1, List.drop_of_length_le (l := outB key info j) (by omega), List.nil_append, List.drop_replicate, e1, outB, List.take_append, l1, List.take_of_length_le (l := outB key info j) (by omega), List.append_assoc]
  rw [show n - 32 * j - (32 * j + m - 32 * j) = n - 32 * (j + 1) by omega]
theorem fillB_end (key info : List UInt8) {n j : Nat} (h : n ≤ 32 * j) : fillB key info n j = expB key info n := by
  rw [fillB, expB_of key info h, show n - 32 * j = 0 by omega]
  simp
theorem fillB_start (key info : List UInt8) (n : Nat) : fillB key info n 0 = List.replicate n 0 := by simp [fillB, outB]
theorem run_slice_from {P : Program} (t e : TypeId) (i : TypeInfo) (ht : P.underlying t = some (.slice e)) (hi : P.info? e = some i) (h1 : i.size = 1) (T f n : Nat) (hf : f < n) (W : World) :
    (Instr.slice t (.slice (some ⟨T, 0, none⟩) n n) (some (.int .i64 (f : Int))) none none).run P W = .ok (.slice (some ⟨T, f, none⟩) (n - f) (n - f)) W := by
  have e1 : P.elem t = e := by simp [Program.elem, ht]
  have ht' : P.underlying t = some (.slice (P.elem t)) := by rw [e1]; exact ht
  rw [run_slice_l W t (some ⟨T, 0, none⟩) n n ht' .i64 (f : Int) (by omega) (by omega), e1, show (sizeOf e).run P W = .ok 1 W by simp [sizeOf, typeInfo, hi, h1]]
  have e5 : ¬ n = f := by omega
  simp [sliced, e5, Addr.add_mid]
theorem blk_of_own {w : World} {base g n : Nat} {t : TypeId} {xs : List Value} (h : w.ownsRow base t 1 (.slice (some ⟨g, 0, none⟩) n n) n xs) : Blk w g t xs := by
  rcases h.2 with ⟨h0, _⟩ | ⟨g', cap, cur, hv, hg, hh, hn, hc, hs, ht⟩
  · cases h0
  · injection hv with e1 e2 e3
    injection e1 with e1
    injection e1 with e1
    subst e1 e3
    have e : cur = xs.toArray := by
      rw [← ht, List.take_of_length_le (by simp [hs])]
    rw [e] at hh
    exact hh
structure Filled (w0 : World) (key info : List UInt8) (n T P : Nat) (a : Value) (j : Nat) (W : World) : Prop where
  row : Blk W T 5 ((fillB key info n j).map bv)
  padded : Blk W P 42 ((hkB key).map bv)
  ahead : Rd W a (tB key info j)
  below : Below w0.heap.size w0 W
def HexpRel (w0 : World) (key info : List UInt8) (n T P : Nat) (a f c : Value) (W : World) : Prop :=
  ∃ j F : Nat, F = min n (32 * j) ∧ f = .int .i64 (F : Int) ∧ c = .int .u8 (((j : Int) + 1) % 256) ∧ 32 * j < n + 32 ∧ Filled w0 key info n T P a j W
set_option maxRecDepth 100000 in
set_option maxHeartbeats 1000000 in
theorem hexpand_yes (vk vi : Value) (key info : List UInt8) (n : Nat) (w0 : World) (hk : Rd w0 vk key) (hf0 : Rd w0 vi info) (lk : key.length ≤ 800000) (lf : info.length ≤ 800000) (hn : n ≤ 8160) (hs0 : Salts w0) :
    Calls Tryd.prog 13 #[vk, vi, .int .i64 (n : Int)] w0 fun e w' => ∃ v, e = .returned (.tuple #[v, .int .i64 0]) ∧ Rd w' v (expB key info n) ∧ Below w0.heap.size w0 w' := by
  obtain ⟨i0, hi, hz0, hz1, hz2⟩ := info_parts info_u8
  obtain ⟨Ai, ci, rfl, hci, hmi, _⟩ := hf0.form
  have HK := Lib.hid hk
  have hf := Lib.hid hf0
  have hs := Lib.hid hs0
  clear hci hmi hk hf0 hs0
  have HIP : Hid ((Tryd.prog.info? 42).map (·.size) = some 128) := by show _ = _; kernel_rfl
  have HIS : Hid ((Tryd.prog.info? 26).map (·.size) = some 32) := by show _ = _; kernel_rfl
  have HZ : Hid ((Tryd.prog.info? 5).map (·.size) = some 1) := by show _ = _; kernel_rfl
  have LHK : Hid (((hkB key).map bv).length = 128) := by show _ = _; rw [List.length_map, hkB_length]
  have LZ : Hid (z128.length = 128) := by show _ = _; simp [z128]
  have nI : (n : Int) ≤ 8160 := by omega
  have hz := zero_padded
  go_enter Tryd.func13, Tryd.ntmps13
  go_wp2_with (fail)
  refine (pad_any _ key _ HK.out (by omega) hs.out).mono ?_
  rintro e wp ⟨rfl, hbp⟩
  have HBP := Lib.hid hbp
  have HMP := Lib.hid (Blk.made wp 42 z128)
  clear hbp
  obtain ⟨P, hP⟩ : ∃ P, P = wp.heap.size := ⟨_, rfl⟩
  go_wp2_with (first
               | refine wpList_store_blk rfl 42 _ _ rfl wp.heap.size 42 _ HMP.out ((hkB key).map bv) rfl rfl (by rw [LHK.out, LZ.out]) (by rw [LHK.out]; exact HIP.out) (bv_one _) ?_
                 intro wq hbq hsq
                 have BQ : Below w0.heap.size w0 wq := HBP.out.trans ((((Below.refl _ _).alloc (Nat.le_refl _) (.cells z128.toArray 42)).trans hsq.below).mono HBP.out.size)
                 have HBQ := Lib.hid BQ
                 have HPQ := Lib.hid hbq
                 clear BQ hbq hsq HMP
               | at_make
                 refine wpList_make_full _ rfl _ _ _ rfl wq.heap.size 5 i0 _ 1 Tryd.underlying22 hi hz0 hz1 _ _ _ _ n rfl rfl ?_ ?_ ?_ ?_ (Nat.le_refl _) ?_
                 · omega
                 · omega
                 · rw [hz2]; omega
                 · unfold maxLen; omega
                 intro w own1 g1)
  obtain ⟨T, hT0⟩ : ∃ T, T = wq.heap.size := ⟨_, rfl⟩
  have hTP : Hid (P ≠ T) := Lib.hid (by have := HPQ.out.lt; omega)
  have hT : Hid (w0.heap.size ≤ T) := Lib.hid (by have := HBQ.out.size; omega)
  have h0 : Hid (Filled w0 key info n T P (.slice none 0 0) 0 w) := Lib.hid ⟨by
      rw [fillB_start, hT0, List.map_replicate]
      have e : List.replicate n (bv 0) = (madeCells (Value.int .u8 0).cells (n * 1)).toList := by rw [made_one rfl]; rfl
      rw [e]
      exact blk_of_own own1, by
      rw [hP]
      exact HPQ.out.grew g1 (by simp), Rd.nil _, HBQ.out.trans ((Below.refl _ _).grown g1 (Nat.le_refl _) (by simp) |>.mono HBQ.out.size)⟩
  rw [← hP, ← hT0]
  clear own1 g1 HPQ hP hT0 hz
  go_loopw [10, 11, 12] (fun a f c wx => HexpRel w0 key info n T P a f c wx) (fun _ f _ _ => n - (intOf f).toNat)
  case atStart => exact ⟨0, 0, by simp, rfl, rfl, by omega, h0.out⟩
  case round =>
    obtain ⟨j, F, hF, rfl, rfl, hj, ht⟩ := hrel
    have HT := Lib.hid ht
    by_cases hlt : F < n
    · obtain ⟨A10, c10, e10, hc10, hm10, _⟩ := ht.ahead.form
      subst e10
      clear hc10 hm10
      have hFj : F = 32 * j := by
        rcases Nat.lt_or_ge (32 * j) n with h | h
        · exact hF.trans (Nat.min_eq_right (Nat.le_of_lt h))
        · exact absurd (hF.trans (Nat.min_eq_left h)) (Nat.ne_of_lt hlt)
      have HFJ := Lib.hid hFj
      have fI : (F : Int) < n := by omega
      have jI : (j : Int) < 255 := by omega
      have HP := Lib.hid ht.padded
      have HRS : Hid (Rs ((wr.alloc (.cells #[.int .u8 (((j : Int) + 1) % 256)] 5)).alloc (.cells #[.slice A10 (tB key info j).length c10, .slice Ai info.length ci, .slice (some ⟨wr.heap.size, 0, none⟩) 1 1] 22)) (.slice (some ⟨wr.heap.size + 1, 0, none⟩) 3 3) [tB key info j, info, [UInt8.ofNat (j + 1)]]) := Lib.hid (by
        have h := rs_lit3 (t := 22) (ht.ahead.alloc (.cells #[.int .u8 (((j : Int) + 1) % 256)] 5)) ((hf.out.below ht.below).alloc (.cells #[.int .u8 (((j : Int) + 1) % 256)] 5)) (rd_one (w := wr) (t := 5) (byte_at j))
        rw [World.size_alloc] at h
        exact h)
      clear ht hF hj hFj
      go_wp2_with (refine wpList_load_blk rfl 42 _ rfl P rfl 42 ((hkB key).map bv) _ HP.out Tryd.underlying42 rfl (by rw [LHK.out]; exact HIP.out) ?_)
      refine (code_any key _ [tB key info j, info, [UInt8.ofNat (j + 1)]] _ HRS.out (by simp) (by simp) (by have := tB_le key info j; simp; omega) ((((hs.out.below HT.out.below).alloc _).alloc _))).mono ?_
      rintro e w1 ⟨rfl, hb1⟩
      obtain ⟨ts, hts⟩ := ex_eq1 (tB key info (j + 1))
      rw [show macB key [tB key info j, info, [UInt8.ofNat (j + 1)]].flatten = ts by rw [hts, tB]; simp]
      have LT : Hid (ts.length = 32) := by show _ = _; rw [hts, tB_succ_length]
      have LTM : Hid ((ts.map bv).length = 32) := by show _ = _; rw [List.length_map, LT.out]
      have HTS := Lib.hid hts
      have b1 : Below wr.heap.size wr w1 := (((Below.refl _ _).alloc (Nat.le_refl _) _).alloc (by simp) _).trans (hb1.mono (by simp; omega))
      have B1 := Lib.hid b1
      have HM := Lib.hid (Blk.made w1 26 (List.replicate 32 (Value.int .u8 0)))
      clear hb1 b1 hts HRS
      have HCU := fun W => run_slice_from (P := Tryd.prog) 22 5 i0 Tryd.underlying22 hi hz1 T F n hlt W
      go_wp2_with (refine wpList_store_blk rfl 26 _ _ rfl w1.heap.size 26 _ HM.out (ts.map bv) rfl rfl (by rw [LTM.out]; rfl) (by rw [LTM.out]; exact HIS.out) (bv_one _) ?_
                   intro w2 hb2 hs2
                   have b2 : Below w1.heap.size w1 w2 := ((Below.refl _ _).alloc (Nat.le_refl _) (.cells (List.replicate 32 (Value.int .u8 0)).toArray 26)).trans hs2.below
                   have B2 := Lib.hid (B1.out.trans (b2.mono B1.out.size))
                   have Q2 := Lib.hid hb2
                   clear hb2 hs2 b2)
      have r2 := Q2.out.rd 32 32 (by rw [LT.out]; omega) (by omega) (by unfold maxLen; omega)
      rw [List.take_of_length_le (by rw [LT.out]; omega)] at r2
      have R2 := Lib.hid r2
      have BT2 := Lib.hid (HT.out.row.below B2.out HT.out.row.lt)
      have BP2 := Lib.hid (HT.out.padded.below B2.out HT.out.padded.lt)
      have D2 := Lib.hid (HT.out.below.trans (B2.out.mono HT.out.below.size))
      have TN : Hid (w1.heap.size ≠ T) := Lib.hid (by have := HT.out.row.lt; have := B1.out.size; omega)
      obtain ⟨m, hm⟩ : ∃ m, m = min 32 (n - F) := ⟨_, rfl⟩
      have hm1 : m = min ts.length (n - F) := by rw [LT.out]; exact hm
      have HMM := Lib.hid hm1
      have HFM : Hid (F + m = min n (32 * (j + 1))) := Lib.hid (by have := HFJ.out; omega)
      have HFN : Hid (F + m ≤ n) := Lib.hid (by omega)
      have HM0 : Hid (0 < m) := Lib.hid (by omega)
      have HST : Hid (splice (fillB key info n j) F (ts.take m) = fillB key info n (j + 1)) := Lib.hid (by rw [HTS.out, HFJ.out]; exact fillB_step key info (by have := HFJ.out; omega) (by have := HFJ.out; omega))
      have mI : (m : Int) ≤ 32 := by omega
      have wI : IntKind.i64.wrap ((F : Int) + (m : Int)) = (F : Int) + (m : Int) := IntWalk.i64_in _ (by omega)
      clear r2 hm hm1
      go_region_law (refine step_copy_rd rfl (.tmp 39) (.tmp 40) 22 22 rfl 5 Tryd.underlying22 HZ.out (some ⟨T, F, none⟩) (n - F) (n - F) (by simp [Act.eval, Act.put]) (.slice (some ⟨w1.heap.size, 0, none⟩) 32 32) (by simp [Act.eval, Act.put]) ts R2.out T F (fillB key info n j) 5 BT2.out m HMM.out (fun _ => rfl) (by rw [fillB_length]; exact HFN.out) ?_; intro w4 hb4 hs4)
      go_wp2_with (fail)
      go_roundw
      case rel =>
        rw [HST.out] at hb4
        have hr := hs4.rd R2.out (fun _ => own_ne TN.out)
        rw [HTS.out] at hr
        exact ⟨j + 1, F + m, HFM.out, by go_num, congrArg (Value.int .u8) (by omega), by have := HFJ.out; omega, hb4, hs4.blk BP2.out hTP.out, hr, D2.out.drew.trans (hs4.below.mono hT.out)⟩
      case measure => have := HM0.out; simp [intOf]; omega
    · have fI : (n : Int) ≤ F := by omega
      have hFj : n ≤ 32 * j := by
        rcases Nat.lt_or_ge (32 * j) n with h | h
        · exact absurd (hF.trans (Nat.min_eq_right (Nat.le_of_lt h))) (by omega)
        · exact h
      have hr := ht.row
      rw [fillB_end key info hFj] at hr
      have hr2 := hr.rd n n (by rw [expB_length]; omega) (Nat.le_refl _) (by unfold maxLen; omega)
      rw [List.take_of_length_le (by rw [expB_length]; omega)] at hr2
      have HR2 := Lib.hid hr2
      have HB := Lib.hid ht.below
      clear ht hF hj hFj hr hr2
      go_wp2_with (fail)
      go_ret2
      exact ⟨_, rfl, HR2.out, HB.out⟩
set_option maxRecDepth 100000 in
set_option maxHeartbeats 400000 in
theorem hexpand_no (vk vi : Value) (n : Int) (w : World) (h : n < 0 ∨ 8160 < n) :
    Calls Tryd.prog 13 #[vk, vi, .int .i64 n] w fun e w' => e = .returned (.tuple #[.slice none 0 0, .int .i64 1]) ∧ w' = w := by
  rcases h with h | h
  · go_enter Tryd.func13, Tryd.ntmps13
    go_wp2_with (fail)
    go_ret2
    exact ⟨rfl, rfl⟩
  · have h1 : ¬ n < 0 := by omega
    go_enter Tryd.func13, Tryd.ntmps13
    go_wp2_with (fail)
    go_ret2
    exact ⟨rfl, rfl⟩
end Go.Proofs.YtpjidfcbckndfaaDoor
