/- The contract of hkdf's pad: a key as its codes take it. Conditions: at most 900000 bytes; the table of the rounds as it is laid. -/
import Derived.Test.YtpjidfcbckndfaaDoorRefMac
import Derived.Test.YtpjidfcbckndfaaDoorCopyR
import Derived.Test.YtpjidfcbckndfaaDoorOf
import Derived.Test.YtpjidfcbckndfaaDoorTwo
import Derived.Test.YtpjidfcbckndfaaDoorRsMore
namespace Go.Proofs.YtpjidfcbckndfaaDoor
open Go.RowKit

/-- What the two halves hold behind j rounds. -/
def midL (k : List UInt8) (c : UInt8) (j : Nat) : List UInt8 := ((padX k c).take j) ++ (padK k).drop j
def midP (k : List UInt8) (j : Nat) : List UInt8 := midL k 54 j ++ midL k 92 j
theorem midL_length {k : List UInt8} (h : k.length ≤ 64) (c : UInt8) {j : Nat} (hj : j ≤ 64) : (midL k c j).length = 64 := by
  rw [midL, List.length_append, List.length_take, List.length_drop, padX_length h, padK_length h]; omega
theorem midP_length {k : List UInt8} (h : k.length ≤ 64) {j : Nat} (hj : j ≤ 64) : (midP k j).length = 128 := by
  rw [midP, List.length_append, midL_length h _ hj, midL_length h _ hj]
theorem midL_at {k : List UInt8} (h : k.length ≤ 64) (c : UInt8) {j : Nat} (hj : j < 64) {x : UInt8} (hx : (padK k)[j]? = some x) : (midL k c j)[j]? = some x := by
  have e : ((padX k c).take j).length = j := by rw [List.length_take, padX_length h]; omega
  rw [midL, List.getElem?_append_right (by omega), e, List.getElem?_drop, Nat.sub_self, Nat.add_zero]
  exact hx
theorem midL_set {k : List UInt8} (h : k.length ≤ 64) (c : UInt8) {j : Nat} (hj : j < 64) {x : UInt8} (hx : (padK k)[j]? = some x) : (midL k c j).set j (x ^^^ c) = midL k c (j + 1) := by
  have hl : j < (padK k).length := by rw [padK_length h]; exact hj
  have hl2 : j < (padX k c).length := by rw [padX_length h]; exact hj
  have e : ((padX k c).take j).length = j := by rw [List.length_take]; omega
  have e1 : (padX k c)[j] = x ^^^ c := by
    have h1 : (padX k c)[j]? = some (x ^^^ c) := by rw [padX, List.getElem?_map, hx]; rfl
    rw [List.getElem?_eq_getElem hl2] at h1
    exact Option.some.inj h1
  unfold midL
  rw [List.set_append_right _ _ (by omega), e, Nat.sub_self, List.drop_eq_getElem_cons hl, List.set_cons_zero, List.take_succ_eq_append_getElem hl2, e1]
  simp
theorem midP_low {k : List UInt8} (h : k.length ≤ 64) {j : Nat} (hj : j < 64) {x : UInt8} (hx : (padK k)[j]? = some x) : ((midP k j).map bv)[j]? = some (bv x) := by
  rw [List.getElem?_map, midP, List.getElem?_append_left (by rw [midL_length h _ (by omega)]; exact hj), midL_at h _ hj hx]
  rfl
theorem midP_high {k : List UInt8} (h : k.length ≤ 64) {j : Nat} (hj : j < 64) {x : UInt8} (hx : (padK k)[j]? = some x) : ((midP k j).map bv)[64 + j]? = some (bv x) := by
  rw [List.getElem?_map, midP, List.getElem?_append_right (by rw [midL_length h _ (by omega)]; omega), midL_length h _ (by omega), show 64 + j - 64 = j by omega, midL_at h _ hj hx]
  rfl
theorem midP_set {k : List UInt8} (h : k.length ≤ 64) {j : Nat} (hj : j < 64) {x : UInt8} (hx : (padK k)[j]? = some x) : (((midP k j).map bv).set j (bv (x ^^^ 54))).set (64 + j) (bv (x ^^^ 92)) = (midP k (j + 1)).map bv := by
  have e : (((midP k j).map bv).set j (bv (x ^^^ 54))).set (64 + j) (bv (x ^^^ 92)) = (((midP k j).set j (x ^^^ 54)).set (64 + j) (x ^^^ 92)).map bv := by rw [List.map_set, List.map_set]
  have l1 : (midL k 54 (j + 1)).length = 64 := midL_length h _ (by omega)
  rw [e, midP, List.set_append_left _ _ (by rw [midL_length h _ (by omega)]; exact hj), midL_set h _ hj hx, List.set_append_right _ _ (by rw [l1]; omega), l1, show 64 + j - 64 = j by omega, midL_set h _ hj hx]
  rfl
theorem midP_start {k : List UInt8} (h : k.length ≤ 64) : splice (splice (List.replicate 128 (0 : UInt8)) 0 (k.take k.length)) 64 (k.take k.length) = midP k 0 := by
  rw [List.take_length]
  have e1 : splice (List.replicate 128 (0 : UInt8)) 0 k = padK k ++ List.replicate 64 0 := by
    simp only [splice, padK, List.take_zero, List.nil_append, Nat.zero_add, List.drop_replicate, List.append_assoc, List.replicate_append_replicate]
    rw [show 64 - k.length + 64 = 128 - k.length by omega]
  have l1 := padK_length h
  rw [e1]
  unfold splice midP midL
  rw [List.take_append_of_le_length (by omega), List.take_of_length_le (by omega), List.drop_append, List.drop_of_length_le (by omega), l1]
  simp only [List.take_zero, List.drop_zero, List.nil_append, List.drop_replicate]
  rw [show 64 - (64 + k.length - 64) = 64 - k.length by omega]
  rfl
theorem midP_end {k : List UInt8} (h : k.length ≤ 64) : midP k 64 = padX k 54 ++ padX k 92 := by
  unfold midP midL
  rw [List.drop_of_length_le (by rw [padK_length h]; omega), List.take_of_length_le (by rw [padX_length h]; omega), List.take_of_length_le (by rw [padX_length h]; omega)]
  simp
def HpadRel (w : World) (k : List UInt8) (G : Nat) (i : Value) (W : World) : Prop :=
  ∃ j : Nat, i = .int .i64 (j : Int) ∧ j ≤ 64 ∧ Blk W G 42 ((midP k j).map bv) ∧ Below G w W
noncomputable def body_hpad : Code := (((Tryd.f17.body.map loopsOf).getD [])[0]?).getD .skip
set_option maxRecDepth 100000 in
set_option maxHeartbeats 1000000 in
theorem hpad_loop (c0 c1 c2 c4 c5 c6 c7 c8 c9 c10 c11 c12 c13 c14 c15 c16 c17 c18 c19 c20 c22 c23 c24 c25 c26 c27 c28 c29 c30 c31 c32 c33 c34 c35 c36 c37 c38 c39 : Value) (k : List UInt8) (hk : k.length ≤ 64) (G : Nat) (w : World) (hb : Hid (Blk w G 42 ((midP k 0).map bv))) {Q : Exit → Act → World → Prop}
    (HQ : Hid (∀ (u5 u21 u22 u23 u24 u25 u26 u27 u28 u29 u30 u31 u32 u33 u34 u35 u36 u37 u38 : Value) (wx : World), Hid (Blk wx G 42 ((padX k 54 ++ padX k 92).map bv)) → Hid (Below G w wx) → Q (.exit 0) ⟨List.toArray (c0 :: c1 :: c2 :: (.pointer (some ⟨G, 0, none⟩)) :: c4 :: u5 :: c6 :: c7 :: c8 :: c9 :: c10 :: c11 :: c12 :: c13 :: c14 :: c15 :: c16 :: c17 :: c18 :: c19 :: c20 :: u21 :: u22 :: u23 :: u24 :: u25 :: u26 :: u27 :: u28 :: u29 :: u30 :: u31 :: u32 :: u33 :: u34 :: u35 :: u36 :: u37 :: u38 :: c39 :: []), []⟩ wx)) :
    (Code.loop body_hpad).wp Tryd.prog Q ⟨List.toArray (c0 :: c1 :: c2 :: (.pointer (some ⟨G, 0, none⟩)) :: c4 :: c5 :: c6 :: c7 :: c8 :: c9 :: c10 :: c11 :: c12 :: c13 :: c14 :: c15 :: c16 :: c17 :: c18 :: c19 :: c20 :: (.int .i64 0) :: c22 :: c23 :: c24 :: c25 :: c26 :: c27 :: c28 :: c29 :: c30 :: c31 :: c32 :: c33 :: c34 :: c35 :: c36 :: c37 :: c38 :: c39 :: []), []⟩ w := by
  unfold body_hpad
  conv => arg 2; arg 1; whnf
  go_loopw [21] (fun i wx => HpadRel w k G i wx) (fun i _ => 64 - (intOf i).toNat)
  case atStart => exact ⟨0, rfl, by omega, hb.out, Below.refl _ _⟩
  case round =>
    obtain ⟨j, rfl, hj, blk, bl⟩ := hrel
    have HD := Lib.hid bl
    have HB := Lib.hid blk
    by_cases hlt : j < 64
    · have hI : (j : Int) < 64 := by omega
      obtain ⟨x, hx⟩ : ∃ x, (padK k)[j]? = some x := ⟨_, List.getElem?_eq_getElem (by rw [padK_length hk]; omega)⟩
      have c1 : wr.cell? ⟨G, j, none⟩ = some (.int .u8 (x.toNat : Int)) := by rw [blk.cell, midP_low hk hlt hx]; rfl
      have c2 : wr.cell? ⟨G, 64 + j, none⟩ = some (.int .u8 (x.toNat : Int)) := by rw [blk.cell, midP_high hk hlt hx]; rfl
      have f1 : wr.frozen? ⟨G, j, none⟩ = false := blk.free _
      have f2 : wr.frozen? ⟨G, 64 + j, none⟩ = false := blk.free _
      have HS := Lib.hid (midP_set hk hlt hx)
      have X1 : Value.int .u8 (bits .xor .u8 (x.toNat : Int) 92) = bv (x ^^^ 92) := xor_u8 x 92
      have X2 : Value.int .u8 (bits .xor .u8 (x.toNat : Int) 54) = bv (x ^^^ 54) := xor_u8 x 54
      have HX1 := Lib.hid X1
      have HX2 := Lib.hid X2
      have hxl : (x.toNat : Int) ≤ 255 := by have := x.toNat_lt; omega
      clear X1 X2 blk bl hx
      go_wp2_with (fail)
      go_roundw
      case rel =>
        rw [HX1.out, HX2.out]
        have h := (HB.out.set j (bv (x ^^^ 54))).set (64 + j) (bv (x ^^^ 92))
        rw [HS.out] at h
        exact ⟨j + 1, by go_num, by omega, h, (HD.out.setCell (p := ⟨G, j, none⟩) (Nat.le_refl _) _).setCell (p := ⟨G, 64 + j, none⟩) (Nat.le_refl _) _⟩
      case measure => simp [intOf]; omega
    · obtain rfl : j = 64 := by omega
      rw [midP_end hk] at blk
      have HB := Lib.hid blk
      clear blk bl
      go_wp2_with (fail)
      exact HQ.out _ _ _ _ _ _ _ _ _ _ _ _ _ _ _ _ _ _ _ _ HB HD
theorem ex_eq1 (x : List UInt8) : ∃ z, z = x := ⟨x, rfl⟩
theorem Sole.rd {w w' : World} {B : Nat} {v : Value} {xs : List UInt8} (h : Sole w w' B) (hr : Rd w v xs) (hne : 0 < xs.length → v.ownBlock ≠ some B) : Rd w' v xs := by
  rcases hr with h1 | ⟨b, off, c, rfl, h2, h3, h4, h5⟩
  · exact .inl h1
  · refine .inr ⟨b, off, c, rfl, by rw [h.size]; exact h2, h3, h4, fun i hi => ?_⟩
    have hb : b ≠ B := fun e => hne (by omega) (by rw [e]; rfl)
    rw [h.cell (p := ⟨b, off + i, none⟩) hb]
    exact h5 i hi
theorem own_old {w : World} {v : Value} {xs : List UInt8} (h : Rd w v xs) : 0 < xs.length → v.ownBlock ≠ some (w.heap.size + 1) := fun h0 => by
  rcases h with ⟨A, c, rfl, _, _, rfl⟩ | ⟨b, off, c, rfl, h2, _⟩
  · simp at h0
  · intro e
    have e2 : b = w.heap.size + 1 := by simpa [Value.ownBlock] using e
    omega
theorem own_ne {g k n c : Nat} (h : g ≠ k) : Value.ownBlock (.slice (some ⟨g, 0, none⟩) n c) ≠ some k := fun e => h (by simpa [Value.ownBlock] using e)
def z128 : List Value := List.replicate 128 (Value.int .u8 0)
theorem z128_eq : z128 = (List.replicate 128 (0 : UInt8)).map bv := by rw [List.map_replicate]; rfl
theorem zero_padded (w : World) : (zeroValue 42).run Tryd.prog w = .ok (.agg z128.toArray) w := by kernel_rfl
/-- A key as its codes take it. -/
def hkB (key : List UInt8) : List UInt8 := padX (keyB key) 54 ++ padX (keyB key) 92
theorem hkB_length (key : List UInt8) : (hkB key).length = 128 := by
  rw [hkB, List.length_append, padX_length (keyB_le key), padX_length (keyB_le key)]
set_option maxRecDepth 100000 in
set_option maxHeartbeats 1000000 in
theorem pad_any (vk : Value) (key : List UInt8) (w : World) (hk : Rd w vk key) (lk : key.length ≤ 900000) (hs : Salts w) :
    Calls Tryd.prog 17 #[vk] w fun e w' => e = .returned (arrV (hkB key)) ∧ Below w.heap.size w w' := by
  obtain ⟨A, c, rfl, hc1, hc2, _⟩ := hk.form
  unfold maxLen at hc2
  have HI : Hid ((Tryd.prog.info? 42).map (·.size) = some 128) := by show _ = _; kernel_rfl
  have HIS : Hid ((Tryd.prog.info? 26).map (·.size) = some 32) := by show _ = _; kernel_rfl
  have HZ : Hid ((Tryd.prog.info? 5).map (·.size) = some 1) := by show _ = _; kernel_rfl
  have HR0 : Hid (Blk ((w.alloc (.cells z128.toArray 42)).alloc (.cells z128.toArray 42)) w.heap.size 42 z128) := Lib.hid ((Blk.made w _ _).alloc _)
  obtain ⟨c0, hc0⟩ := ex_eq1 (List.replicate 128 (0 : UInt8))
  have HP0 : Hid (Blk ((w.alloc (.cells z128.toArray 42)).alloc (.cells z128.toArray 42)) (w.heap.size + 1) 42 (c0.map bv)) := Lib.hid (by
    have h := Blk.made (w.alloc (.cells z128.toArray 42)) 42 z128
    rw [World.size_alloc] at h
    rw [hc0, ← z128_eq]
    exact h)
  have HL0 : Hid (c0.length = 128) := by show _ = _; rw [hc0]; simp
  have D0 : Hid (Below w.heap.size w ((w.alloc (.cells z128.toArray 42)).alloc (.cells z128.toArray 42))) := Lib.hid (((Below.refl _ _).alloc (Nat.le_refl _) _).alloc (by simp) _)
  have HC0 := Lib.hid hc0
  have HK := Lib.hid (hk.below D0.out)
  have HS := Lib.hid (hs.below D0.out)
  have kI : (key.length : Int) ≤ 900000 := by omega
  have hz := zero_padded
  clear hs hc1 hc0
  by_cases h64 : key.length ≤ 64
  · have h64I : (key.length : Int) ≤ 64 := by omega
    have HKB : Hid (keyB key = key) := if_pos h64
    have HKL := Lib.hid h64
    have NB : Hid (0 < key.length → Value.ownBlock (.slice A key.length c) ≠ some (w.heap.size + 1)) := Lib.hid (own_old hk)
    obtain ⟨c1, hc1⟩ := ex_eq1 (splice c0 0 (key.take key.length))
    obtain ⟨c2, hc2⟩ := ex_eq1 (splice c1 64 (key.take key.length))
    have HC1 := Lib.hid hc1
    have HC2 := Lib.hid hc2
    have HL1 : Hid (c1.length = 128) := by show _ = _; rw [hc1, length_splice _ _ _ (by rw [List.take_length, HL0.out]; omega), HL0.out]
    have HC3 : Hid (c2 = midP key 0) := by show _ = _; rw [hc2, hc1, HC0.out]; exact midP_start h64
    clear h64 lk hk hc1 hc2
    go_enter Tryd.func17, Tryd.ntmps17
    go_wp2_with (first
                 | refine wpList_copy_rd rfl (.tmp 14) (.tmp 15) _ _ rfl 5 Tryd.underlying22 HZ.out (some ⟨w.heap.size + 1, 0, none⟩) 64 64 rfl _ rfl key HK.out (w.heap.size + 1) 0 c0 42 HP0.out key.length (by have := HKL.out; omega) (fun _ => rfl) (by have := HKL.out; have := HL0.out; omega) ?_
                   intro w11 hb11 hs11
                   rw [← HC1.out] at hb11
                   have HP1 := Lib.hid hb11
                   have HK1 := Lib.hid (hs11.rd HK.out NB.out)
                   have HR1 := Lib.hid (hs11.blk HR0.out (by omega))
                   have DD1 : Hid (Below w.heap.size w w11) := Lib.hid (D0.out.trans (hs11.below.mono (by omega)))
                   clear hb11 hs11
                 | refine wpList_copy_rd rfl (.tmp 18) (.tmp 19) _ _ rfl 5 Tryd.underlying22 HZ.out (some ⟨w.heap.size + 1, 64, none⟩) 64 64 rfl _ rfl key HK1.out (w.heap.size + 1) 64 c1 42 HP1.out key.length (by have := HKL.out; omega) (fun _ => rfl) (by have := HKL.out; have := HL1.out; omega) ?_
                   intro w12 hb12 hs12
                   rw [← HC2.out, HC3.out] at hb12
                   have HP2 := Lib.hid hb12
                   have HR2 := Lib.hid (hs12.blk HR1.out (by omega))
                   have DD2 : Hid (Below w.heap.size w w12) := Lib.hid (DD1.out.trans (hs12.below.mono (by omega)))
                   clear hb12 hs12)
    refine hpad_loop _ _ _ _ _ _ _ _ _ _ _ _ _ _ _ _ _ _ _ _ _ _ _ _ _ _ _ _ _ _ _ _ _ _ _ _ _ _ key HKL.out (w.heap.size + 1) w12 HP2 (Lib.hid ?_)
    intro u5 u21 u22 u23 u24 u25 u26 u27 u28 u29 u30 u31 u32 u33 u34 u35 u36 u37 u38 w13 hb13 hl13
    have HP3 : Hid (Blk w13 (w.heap.size + 1) 42 ((hkB key).map bv)) := Lib.hid (by unfold hkB; rw [HKB.out]; exact hb13.out)
    have HR3 := Lib.hid (HR2.out.below hl13.out (by omega))
    have DD3 : Hid (Below w.heap.size w w13) := Lib.hid (DD2.out.trans (hl13.out.mono (by omega)))
    have HL : Hid (((hkB key).map bv).length = 128) := by show _ = _; rw [List.length_map, hkB_length]
    have HLZ : Hid (z128.length = 128) := by show _ = _; simp [z128]
    obtain ⟨res, hres⟩ := ex_eq1 (hkB key)
    rw [← hres] at HP3 HL
    have HRES := Lib.hid hres
    clear hb13 hl13 hres
    go_wp2_with (first
      | (refine wpList_load_blk rfl 42 _ rfl (w.heap.size + 1) rfl 42 _ _ HP3.out Tryd.underlying42 rfl (by rw [HL.out]; exact HI.out) ?_)
      | (refine wpList_store_blk rfl 42 _ _ rfl w.heap.size 42 _ HR3.out (res.map bv) rfl rfl (by rw [HL.out, HLZ.out]) (by rw [HL.out]; exact HI.out) (bv_one _) ?_; intro w14 hb14 hs14))
    refine bodyPost_ret (v := arrV res) ?_ rfl ⟨by rw [HRES.out], DD3.out.trans hs14.below⟩
    exact results_blk (ty := 42) Tryd.results17 _ w14 w.heap.size 42 (res.map bv) _ rfl hb14 Tryd.underlying42 rfl (by rw [HL.out]; exact HI.out)
  · have h64I : (64 : Int) < key.length := by omega
    have HKK : Hid (keyB key = shaB key) := if_neg h64
    have LKK := shaB_len key
    obtain ⟨kb, hkb⟩ := ex_eq1 (shaB key)
    have HKB : Hid (keyB key = kb) := by show _ = _; rw [HKK.out, hkb]
    rw [← hkb] at LKK
    have LKM : Hid ((kb.map bv).length = 32) := by show _ = _; rw [List.length_map, LKK]
    have HKL : Hid (kb.length ≤ 64) := Lib.hid (by omega)
    obtain ⟨c1, hc1⟩ := ex_eq1 (splice c0 0 (kb.take kb.length))
    obtain ⟨c2, hc2⟩ := ex_eq1 (splice c1 64 (kb.take kb.length))
    have HC1 := Lib.hid hc1
    have HC2 := Lib.hid hc2
    have HL1 : Hid (c1.length = 128) := by show _ = _; rw [hc1, length_splice _ _ _ (by rw [List.take_length, HL0.out]; omega), HL0.out]
    have HC3 : Hid (c2 = midP kb 0) := by show _ = _; rw [hc2, hc1, HC0.out]; exact midP_start HKL.out
    have LK := Lib.hid LKK
    have HKE := Lib.hid hkb
    have HRS : Hid (Rs (((w.alloc (.cells z128.toArray 42)).alloc (.cells z128.toArray 42)).alloc (.cells #[.slice A key.length c] 22)) (.slice (some ⟨w.heap.size + 1 + 1, 0, none⟩) 1 1) [key]) := Lib.hid (by
      have h := rs_lit1 (t := 22) HK.out
      simp only [World.size_alloc] at h
      exact h)
    have DW := Lib.hid (HS.out.alloc (.cells #[.slice A key.length c] 22))
    clear h64 hk hc1 hc2 hkb LKK HKK
    go_enter Tryd.func17, Tryd.ntmps17
    go_wp2_with (fail)
    refine (of_any _ [key] _ HRS.out (by simp; omega) (by simp) DW.out).mono ?_
    rintro e wa ⟨rfl, hba⟩
    rw [show shaB [key].flatten = kb by rw [HKE.out]; simp]
    have DA := Lib.hid ((D0.out.alloc D0.out.size (.cells #[.slice A key.length c] 22)).trans (hba.mono (by simp; omega)))
    have HPA := Lib.hid ((HP0.out.alloc (.cells #[.slice A key.length c] 22)).below hba (by simp))
    have HRA := Lib.hid ((HR0.out.alloc (.cells #[.slice A key.length c] 22)).below hba (by simp; omega))
    have SA : w.heap.size + 1 < wa.heap.size := by have := hba.size; simp at this; omega
    have HBA := Lib.hid (Blk.made wa 26 (List.replicate 32 (Value.int .u8 0)))
    clear hba
    go_wp2_with (first
               | refine wpList_store_blk rfl 26 _ _ rfl wa.heap.size 26 _ HBA.out (kb.map bv) rfl rfl (by rw [LKM.out]; rfl) (by rw [LKM.out]; exact HIS.out) (bv_one _) ?_
                 intro wc hbc hsc
                 have rc := hbc.rd 32 32 (by rw [LK.out]; omega) (by omega) (by unfold maxLen; omega)
                 rw [List.take_of_length_le (by rw [LK.out]; omega)] at rc
                 have RC := Lib.hid rc
                 have HPC := Lib.hid (hsc.blk (HPA.out.alloc _) (by omega))
                 have HRC := Lib.hid (hsc.blk (HRA.out.alloc _) (by omega))
                 have DC : Hid (Below w.heap.size w wc) := Lib.hid ((DA.out.alloc DA.out.size (.cells (List.replicate 32 (Value.int .u8 0)).toArray 26)).trans (hsc.below.mono DA.out.size))
                 have NB : Hid (0 < kb.length → Value.ownBlock (.slice (some ⟨wa.heap.size, 0, none⟩) 32 32) ≠ some (w.heap.size + 1)) := Lib.hid (fun _ => own_ne (by omega))
                 clear hbc hsc rc HBA
               | refine wpList_copy_rd rfl (.tmp 14) (.tmp 15) _ _ rfl 5 Tryd.underlying22 HZ.out (some ⟨w.heap.size + 1, 0, none⟩) 64 64 rfl _ rfl kb RC.out (w.heap.size + 1) 0 c0 42 HPC.out kb.length (by have := HKL.out; omega) (fun _ => rfl) (by have := HKL.out; have := HL0.out; omega) ?_
                 intro w11 hb11 hs11
                 rw [← HC1.out] at hb11
                 have HP1 := Lib.hid hb11
                 have HK1 := Lib.hid (hs11.rd RC.out NB.out)
                 have HR1 := Lib.hid (hs11.blk HRC.out (by omega))
                 have DD1 : Hid (Below w.heap.size w w11) := Lib.hid (DC.out.trans (hs11.below.mono (by omega)))
                 clear hb11 hs11
               | refine wpList_copy_rd rfl (.tmp 18) (.tmp 19) _ _ rfl 5 Tryd.underlying22 HZ.out (some ⟨w.heap.size + 1, 64, none⟩) 64 64 rfl _ rfl kb HK1.out (w.heap.size + 1) 64 c1 42 HP1.out kb.length (by have := HKL.out; omega) (fun _ => rfl) (by have := HKL.out; have := HL1.out; omega) ?_
                 intro w12 hb12 hs12
                 rw [← HC2.out, HC3.out] at hb12
                 have HP2 := Lib.hid hb12
                 have HR2 := Lib.hid (hs12.blk HR1.out (by omega))
                 have DD2 : Hid (Below w.heap.size w w12) := Lib.hid (DD1.out.trans (hs12.below.mono (by omega)))
                 clear hb12 hs12)
    refine hpad_loop _ _ _ _ _ _ _ _ _ _ _ _ _ _ _ _ _ _ _ _ _ _ _ _ _ _ _ _ _ _ _ _ _ _ _ _ _ _ kb HKL.out (w.heap.size + 1) w12 HP2 (Lib.hid ?_)
    intro u5 u21 u22 u23 u24 u25 u26 u27 u28 u29 u30 u31 u32 u33 u34 u35 u36 u37 u38 w13 hb13 hl13
    have HP3 : Hid (Blk w13 (w.heap.size + 1) 42 ((hkB key).map bv)) := Lib.hid (by unfold hkB; rw [HKB.out]; exact hb13.out)
    have HR3 := Lib.hid (HR2.out.below hl13.out (by omega))
    have DD3 : Hid (Below w.heap.size w w13) := Lib.hid (DD2.out.trans (hl13.out.mono (by omega)))
    have HL : Hid (((hkB key).map bv).length = 128) := by show _ = _; rw [List.length_map, hkB_length]
    have HLZ : Hid (z128.length = 128) := by show _ = _; simp [z128]
    obtain ⟨res, hres⟩ := ex_eq1 (hkB key)
    rw [← hres] at HP3 HL
    have HRES := Lib.hid hres
    clear hb13 hl13 hres
    go_wp2_with (first
      | (refine wpList_load_blk rfl 42 _ rfl (w.heap.size + 1) rfl 42 _ _ HP3.out Tryd.underlying42 rfl (by rw [HL.out]; exact HI.out) ?_)
      | (refine wpList_store_blk rfl 42 _ _ rfl w.heap.size 42 _ HR3.out (res.map bv) rfl rfl (by rw [HL.out, HLZ.out]) (by rw [HL.out]; exact HI.out) (bv_one _) ?_; intro w14 hb14 hs14))
    refine bodyPost_ret (v := arrV res) ?_ rfl ⟨by rw [HRES.out], DD3.out.trans hs14.below⟩
    exact results_blk (ty := 42) Tryd.results17 _ w14 w.heap.size 42 (res.map bv) _ rfl hb14 Tryd.underlying42 rfl (by rw [HL.out]; exact HI.out)
end Go.Proofs.YtpjidfcbckndfaaDoor
