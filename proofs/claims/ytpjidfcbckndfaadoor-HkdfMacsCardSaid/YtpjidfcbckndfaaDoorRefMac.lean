/- The contract of the third reference's Mac: the published code of a message by a key. Conditions: at most 900000 bytes each. -/
import Derived.Test.YtpjidfcbckndfaaDoorRefMacA
import Derived.Test.YtpjidfcbckndfaaDoorShort0
namespace Go.Proofs.YtpjidfcbckndfaaDoor
open Go.RowKit

/-- The key's bytes, or its fingerprint, if it has more than 64. -/
def keyB (key : List UInt8) : List UInt8 := if key.length ≤ 64 then key else shaB key
theorem shaB_len (xs : List UInt8) : (shaB xs).length = 32 := St.bytes_length _
theorem keyB_le (key : List UInt8) : (keyB key).length ≤ 64 := by
  unfold keyB
  split
  · assumption
  · rw [shaB_len]; omega
/-- The code. -/
def macB (key msg : List UInt8) : List UInt8 := shaB (padX (keyB key) 92 ++ shaB (padX (keyB key) 54 ++ msg))
theorem own_mono {w : World} {base base' n : Nat} {t : TypeId} {v : Value} {xs : List Value} (h : w.ownsRow base t 1 v n xs) (hb : base' ≤ base) : w.ownsRow base' t 1 v n xs :=
  ⟨h.1, h.2.imp id fun ⟨g, cap, cur, h1, h2, h3⟩ => ⟨g, cap, cur, h1, Nat.le_trans hb h2, h3⟩⟩
theorem macB_length (key msg : List UInt8) : (macB key msg).length = 32 := shaB_len _
set_option maxRecDepth 100000 in
set_option maxHeartbeats 1000000 in
theorem refMac_any (vk vm : Value) (key msg : List UInt8) (w : World) (hk : Rd w vk key) (hm : Rd w vm msg) (lk : key.length ≤ 900000) (lm : msg.length ≤ 900000) :
    Calls Tryd.prog 11 #[vk, vm] w (Own w 5 (macB key msg)) := by
  obtain ⟨i0, hi, hz0, hz1, hz2⟩ := info_parts info_u8
  obtain ⟨A, c, rfl, hc1, hc2, _⟩ := hk.form
  unfold maxLen at hc2
  have HI : Hid ((Tryd.prog.info? 26).map (·.size) = some 32) := by show _ = _; kernel_rfl
  have HK := Lib.hid hk
  have HM := Lib.hid hm
  have kI : (key.length : Int) ≤ 900000 := by omega
  have mI : (msg.length : Int) ≤ 900000 := by omega
  clear hk hm hc1
  by_cases h64 : key.length ≤ 64
  · have h64I : (key.length : Int) ≤ 64 := by omega
    have HKB : Hid (keyB key = key) := if_pos h64
    have HKL := Lib.hid h64
    clear h64
    go_enter Tryd.func11, Tryd.ntmps11
    go_wp2_with (fail)
    refine macs_loop _ _ _ _ _ _ _ _ _ _ _ _ _ _ _ _ _ _ _ _ _ _ _ _ _ _ _ _ _ _ _ _ _ _ _ _ _ _ _ _ _ _ _ _ _ _ _ _ _ _ key w HK HKL.out (Lib.hid ?_)
    intro u8 u9 u20 u21 u22 u23 u24 u25 u26 u27 u28 u29 u30 u31 u32 u33 u34 u35 u36 u37 u38 u39 u40 u41 a b w1 oa1 ob1 ap1 bl1
    have AP := Lib.hid ap1.out
    have OA1 := Lib.hid oa1.out
    have LX : Hid ((padX (keyB key) 92).length = 64) := padX_length (keyB_le key) 92
    have LY : Hid ((padX (keyB key) 54).length = 64) := padX_length (keyB_le key) 54
    have D1 : Hid (Below w.heap.size w w1) := Lib.hid (bl1.out)
    have HM1 := Lib.hid (HM.out.below D1.out)
    have S1 : w.heap.size ≤ w1.heap.size := D1.out.size
    have OB1 : Hid (w1.ownsRow w.heap.size 5 1 b 64 ((padX (keyB key) 54).map bv)) := Lib.hid (HKB.out.symm ▸ ob1.out)
    have OA1' : Hid (w1.ownsRow w.heap.size 5 1 a 64 ((padX (keyB key) 92).map bv)) := Lib.hid (HKB.out.symm ▸ oa1.out)
    clear ap1 oa1 ob1 bl1 OA1
    go_wp2_with (at_builtin
                 refine wpList_append_rd _ rfl _ _ _ rfl w.heap.size 5 i0 _ Tryd.underlying22 hi hz0 hz1 hz2 rfl _ _ _ rfl OB1.out vm msg rfl HM1.out ?_ ?_ ?_
                 · omega
                 · exact S1
                 intro v2 w2 own2 g2)
    have OA2 := Lib.hid (AP.out.kept OA1'.out g2)
    have D2 : Hid (Below w.heap.size w w2) := Lib.hid (D1.out.grown g2 S1 (own_ge OB1.out))
    rw [← List.map_append] at own2
    have R2 := Lib.hid (Rd.of_own own2)
    clear own2 g2
    refine (refSum_any _ (padX (keyB key) 54 ++ msg) _ R2.out (by rw [List.length_append, LY.out]; omega)).mono ?_
    rintro e w3 ⟨rfl, hb3⟩
    have OA3 := Lib.hid (own_lain OA2.out hb3)
    have D3 : Hid (Below w.heap.size w w3) := Lib.hid (D2.out.trans (hb3.mono D2.out.size))
    obtain ⟨inner, hin⟩ : ∃ z, z = shaB (padX (keyB key) 54 ++ msg) := ⟨_, rfl⟩
    rw [← hin]
    have LI : Hid (inner.length = 32) := by show _ = _; rw [hin, shaB_len]
    have LIM : Hid ((inner.map bv).length = 32) := by show _ = _; rw [List.length_map, LI.out]
    have HIN := Lib.hid hin
    have HB3 := Lib.hid (Blk.made w3 26 (List.replicate 32 (Value.int .u8 0)))
    clear hb3 hin R2
    go_wp2_with (first
                 | refine wpList_store_blk rfl 26 _ _ rfl w3.heap.size 26 _ HB3.out (inner.map bv) rfl rfl (by rw [LIM.out]; rfl) (by rw [LIM.out]; exact HI.out) (bv_one _) ?_
                   intro w4 hb4 hs4
                   have OA4 := Lib.hid (own_sole (OA3.out.alloc _) hs4 (fun hk => Nat.lt_irrefl _ ((OA3.out.lt _ hk).2)))
                   have r4 := hb4.rd 32 32 (by rw [LI.out]; omega) (by omega) (by unfold maxLen; omega)
                   rw [List.take_of_length_le (by rw [LI.out]; omega)] at r4
                   have R4 := Lib.hid r4
                   have D4 : Hid (Below w.heap.size w w4) := Lib.hid ((D3.out.alloc D3.out.size (.cells (List.replicate 32 (Value.int .u8 0)).toArray 26)).trans (hs4.below.mono D3.out.size))
                   have S4 : w.heap.size ≤ w4.heap.size := D4.out.size
                   clear hb4 hs4 r4 HB3
                 | at_builtin
                   refine wpList_append_rd _ rfl _ _ _ rfl w.heap.size 5 i0 _ Tryd.underlying22 hi hz0 hz1 hz2 rfl _ _ _ rfl OA4.out _ inner rfl R4.out ?_ ?_ ?_
                   · rw [LI.out]; omega
                   · exact S4
                   intro v5 w5 own5 g5)
    rw [← List.map_append] at own5
    have R5 := Lib.hid (Rd.of_own own5)
    have D5 : Hid (Below w.heap.size w w5) := Lib.hid (D4.out.grown g5 S4 (own_ge OA4.out))
    clear own5 g5
    refine (refSum_any _ (padX (keyB key) 92 ++ inner) _ R5.out (by rw [List.length_append, LX.out, LI.out]; omega)).mono ?_
    rintro e w6 ⟨rfl, hb6⟩
    have D6 : Hid (Below w.heap.size w w6) := Lib.hid (D5.out.trans (hb6.mono D5.out.size))
    have HRES : Hid (shaB (padX (keyB key) 92 ++ inner) = macB key msg) := by show _ = _; rw [HIN.out]; rfl
    rw [HRES.out]
    obtain ⟨res, hres⟩ : ∃ z, z = macB key msg := ⟨_, rfl⟩
    rw [← hres]
    have LR : Hid (res.length = 32) := by show _ = _; rw [hres, macB_length]
    have LRM : Hid ((res.map bv).length = 32) := by show _ = _; rw [List.length_map, LR.out]
    have HB6 := Lib.hid (Blk.made w6 26 (List.replicate 32 (Value.int .u8 0)))
    have HRS := Lib.hid hres
    clear hb6 R5 HRES HIN hres
    go_wp2_with (first
                 | refine wpList_store_blk rfl 26 _ _ rfl w6.heap.size 26 _ HB6.out (res.map bv) rfl rfl (by rw [LRM.out]; rfl) (by rw [LRM.out]; exact HI.out) (bv_one _) ?_
                   intro w7 hb7 hs7
                   have r7 := hb7.rd 32 32 (by rw [LR.out]; omega) (by omega) (by unfold maxLen; omega)
                   rw [List.take_of_length_le (by rw [LR.out]; omega)] at r7
                   have R7 := Lib.hid (r7.alloc (.cells #[] 5))
                   have D7 : Hid (Below w.heap.size w w7) := Lib.hid ((D6.out.alloc D6.out.size (.cells (List.replicate 32 (Value.int .u8 0)).toArray 26)).trans (hs7.below.mono D6.out.size))
                   have S7 : w.heap.size ≤ w7.heap.size := D7.out.size
                   have D8 : Hid (Below w.heap.size w (w7.alloc (.cells #[] 5))) := Lib.hid (D7.out.alloc S7 _)
                   clear hb7 hs7 r7 HB6
                 | at_builtin
                   refine wpList_append_rd _ rfl _ _ _ rfl w.heap.size 5 i0 _ Tryd.underlying22 hi hz0 hz1 hz2 rfl (.slice (some ⟨w7.heap.size, 0, none⟩) 0 0) 0 [] rfl (World.ownsRow_lit w7 #[] 0 S7 (by simp) rfl) _ res rfl R7.out ?_ ?_ ?_
                   · rw [LR.out]; omega
                   · exact D8.out.size
                   intro v9 w9 own9 g9)
    go_ret
    rw [← HRS.out]
    exact ⟨_, rfl, by simpa using own9, D8.out.grown g9 D8.out.size (fun k hk => by rw [← (show w7.heap.size = k by simpa [Value.ownBlock] using hk)]; exact S7)⟩
  · have h64I : (64 : Int) < key.length := by omega
    have HKK : Hid (keyB key = shaB key) := if_neg h64
    clear h64
    go_enter Tryd.func11, Tryd.ntmps11
    go_wp2_with (fail)
    refine (refSum_any _ key _ HK.out (by omega)).mono ?_
    rintro e wa ⟨rfl, hba⟩
    obtain ⟨kb, hkb⟩ : ∃ z, z = shaB key := ⟨_, rfl⟩
    rw [← hkb]
    have LK : Hid (kb.length = 32) := by show _ = _; rw [hkb, shaB_len]
    have LKM : Hid ((kb.map bv).length = 32) := by show _ = _; rw [List.length_map, LK.out]
    have HKB : Hid (keyB key = kb) := by show _ = _; rw [HKK.out, hkb]
    have HKL : Hid (kb.length ≤ 64) := by show _ ≤ _; rw [LK.out]; omega
    have DA := Lib.hid hba
    have HBA := Lib.hid (Blk.made wa 26 (List.replicate 32 (Value.int .u8 0)))
    clear hba hkb HKK
    go_wp2_with (first
                 | refine wpList_store_blk rfl 26 _ _ rfl wa.heap.size 26 _ HBA.out (kb.map bv) rfl rfl (by rw [LKM.out]; rfl) (by rw [LKM.out]; exact HI.out) (bv_one _) ?_
                   intro wc hbc hsc
                   have rc := hbc.rd 32 32 (by rw [LK.out]; omega) (by omega) (by unfold maxLen; omega)
                   rw [List.take_of_length_le (by rw [LK.out]; omega)] at rc
                   have RC := Lib.hid (rc.alloc (.cells #[] 5))
                   have DC : Hid (Below w.heap.size w wc) := Lib.hid ((DA.out.alloc DA.out.size (.cells (List.replicate 32 (Value.int .u8 0)).toArray 26)).trans (hsc.below.mono DA.out.size))
                   have SC : w.heap.size ≤ wc.heap.size := DC.out.size
                   have DD : Hid (Below w.heap.size w (wc.alloc (.cells #[] 5))) := Lib.hid (DC.out.alloc SC _)
                   clear hbc hsc rc HBA
                 | at_builtin
                   refine wpList_append_rd _ rfl _ _ _ rfl w.heap.size 5 i0 _ Tryd.underlying22 hi hz0 hz1 hz2 rfl (.slice (some ⟨wc.heap.size, 0, none⟩) 0 0) 0 [] rfl (World.ownsRow_lit wc #[] 0 SC (by simp) rfl) _ kb rfl RC.out ?_ ?_ ?_
                   · rw [LK.out]; omega
                   · exact DD.out.size
                   intro vb wb ownb gb)
    have HKBR : Hid (Rd wb vb kb) := Lib.hid (Rd.of_own (by simpa using ownb))
    have DB : Hid (Below w.heap.size w wb) := Lib.hid (DD.out.grown gb DD.out.size (fun k hk => by rw [← (show wc.heap.size = k by simpa [Value.ownBlock] using hk)]; exact SC))
    have HMB := Lib.hid (HM.out.below DB.out)
    clear ownb gb
    refine macs_loop _ _ _ _ _ _ _ _ _ _ _ _ _ _ _ _ _ _ _ _ _ _ _ _ _ _ _ _ _ _ _ _ _ _ _ _ _ _ _ _ _ _ _ _ _ _ _ _ _ _ kb wb HKBR HKL.out (Lib.hid ?_)
    intro u8 u9 u20 u21 u22 u23 u24 u25 u26 u27 u28 u29 u30 u31 u32 u33 u34 u35 u36 u37 u38 u39 u40 u41 a b w1 oa1 ob1 ap1 bl1
    have AP := Lib.hid ap1.out
    have OA1 := Lib.hid oa1.out
    have LX : Hid ((padX (keyB key) 92).length = 64) := padX_length (keyB_le key) 92
    have LY : Hid ((padX (keyB key) 54).length = 64) := padX_length (keyB_le key) 54
    have D1 : Hid (Below wb.heap.size wb w1) := Lib.hid (bl1.out)
    have HM1 := Lib.hid (HMB.out.below D1.out)
    have S1 : wb.heap.size ≤ w1.heap.size := D1.out.size
    have OB1 : Hid (w1.ownsRow wb.heap.size 5 1 b 64 ((padX (keyB key) 54).map bv)) := Lib.hid (HKB.out.symm ▸ ob1.out)
    have OA1' : Hid (w1.ownsRow wb.heap.size 5 1 a 64 ((padX (keyB key) 92).map bv)) := Lib.hid (HKB.out.symm ▸ oa1.out)
    clear ap1 oa1 ob1 bl1 OA1
    go_wp2_with (at_builtin
                 refine wpList_append_rd _ rfl _ _ _ rfl wb.heap.size 5 i0 _ Tryd.underlying22 hi hz0 hz1 hz2 rfl _ _ _ rfl OB1.out vm msg rfl HM1.out ?_ ?_ ?_
                 · omega
                 · exact S1
                 intro v2 w2 own2 g2)
    have OA2 := Lib.hid (AP.out.kept OA1'.out g2)
    have D2 : Hid (Below wb.heap.size wb w2) := Lib.hid (D1.out.grown g2 S1 (own_ge OB1.out))
    rw [← List.map_append] at own2
    have R2 := Lib.hid (Rd.of_own own2)
    clear own2 g2
    refine (refSum_any _ (padX (keyB key) 54 ++ msg) _ R2.out (by rw [List.length_append, LY.out]; omega)).mono ?_
    rintro e w3 ⟨rfl, hb3⟩
    have OA3 := Lib.hid (own_lain OA2.out hb3)
    have D3 : Hid (Below wb.heap.size wb w3) := Lib.hid (D2.out.trans (hb3.mono D2.out.size))
    obtain ⟨inner, hin⟩ : ∃ z, z = shaB (padX (keyB key) 54 ++ msg) := ⟨_, rfl⟩
    rw [← hin]
    have LI : Hid (inner.length = 32) := by show _ = _; rw [hin, shaB_len]
    have LIM : Hid ((inner.map bv).length = 32) := by show _ = _; rw [List.length_map, LI.out]
    have HIN := Lib.hid hin
    have HB3 := Lib.hid (Blk.made w3 26 (List.replicate 32 (Value.int .u8 0)))
    clear hb3 hin R2
    go_wp2_with (first
                 | refine wpList_store_blk rfl 26 _ _ rfl w3.heap.size 26 _ HB3.out (inner.map bv) rfl rfl (by rw [LIM.out]; rfl) (by rw [LIM.out]; exact HI.out) (bv_one _) ?_
                   intro w4 hb4 hs4
                   have OA4 := Lib.hid (own_sole (OA3.out.alloc _) hs4 (fun hk => Nat.lt_irrefl _ ((OA3.out.lt _ hk).2)))
                   have r4 := hb4.rd 32 32 (by rw [LI.out]; omega) (by omega) (by unfold maxLen; omega)
                   rw [List.take_of_length_le (by rw [LI.out]; omega)] at r4
                   have R4 := Lib.hid r4
                   have D4 : Hid (Below wb.heap.size wb w4) := Lib.hid ((D3.out.alloc D3.out.size (.cells (List.replicate 32 (Value.int .u8 0)).toArray 26)).trans (hs4.below.mono D3.out.size))
                   have S4 : wb.heap.size ≤ w4.heap.size := D4.out.size
                   clear hb4 hs4 r4 HB3
                 | at_builtin
                   refine wpList_append_rd _ rfl _ _ _ rfl wb.heap.size 5 i0 _ Tryd.underlying22 hi hz0 hz1 hz2 rfl _ _ _ rfl OA4.out _ inner rfl R4.out ?_ ?_ ?_
                   · rw [LI.out]; omega
                   · exact S4
                   intro v5 w5 own5 g5)
    rw [← List.map_append] at own5
    have R5 := Lib.hid (Rd.of_own own5)
    have D5 : Hid (Below wb.heap.size wb w5) := Lib.hid (D4.out.grown g5 S4 (own_ge OA4.out))
    clear own5 g5
    refine (refSum_any _ (padX (keyB key) 92 ++ inner) _ R5.out (by rw [List.length_append, LX.out, LI.out]; omega)).mono ?_
    rintro e w6 ⟨rfl, hb6⟩
    have D6 : Hid (Below wb.heap.size wb w6) := Lib.hid (D5.out.trans (hb6.mono D5.out.size))
    have HRES : Hid (shaB (padX (keyB key) 92 ++ inner) = macB key msg) := by show _ = _; rw [HIN.out]; rfl
    rw [HRES.out]
    obtain ⟨res, hres⟩ : ∃ z, z = macB key msg := ⟨_, rfl⟩
    rw [← hres]
    have LR : Hid (res.length = 32) := by show _ = _; rw [hres, macB_length]
    have LRM : Hid ((res.map bv).length = 32) := by show _ = _; rw [List.length_map, LR.out]
    have HB6 := Lib.hid (Blk.made w6 26 (List.replicate 32 (Value.int .u8 0)))
    have HRS := Lib.hid hres
    clear hb6 R5 HRES HIN hres
    go_wp2_with (first
                 | refine wpList_store_blk rfl 26 _ _ rfl w6.heap.size 26 _ HB6.out (res.map bv) rfl rfl (by rw [LRM.out]; rfl) (by rw [LRM.out]; exact HI.out) (bv_one _) ?_
                   intro w7 hb7 hs7
                   have r7 := hb7.rd 32 32 (by rw [LR.out]; omega) (by omega) (by unfold maxLen; omega)
                   rw [List.take_of_length_le (by rw [LR.out]; omega)] at r7
                   have R7 := Lib.hid (r7.alloc (.cells #[] 5))
                   have D7 : Hid (Below wb.heap.size wb w7) := Lib.hid ((D6.out.alloc D6.out.size (.cells (List.replicate 32 (Value.int .u8 0)).toArray 26)).trans (hs7.below.mono D6.out.size))
                   have S7 : wb.heap.size ≤ w7.heap.size := D7.out.size
                   have D8 : Hid (Below wb.heap.size wb (w7.alloc (.cells #[] 5))) := Lib.hid (D7.out.alloc S7 _)
                   clear hb7 hs7 r7 HB6
                 | at_builtin
                   refine wpList_append_rd _ rfl _ _ _ rfl wb.heap.size 5 i0 _ Tryd.underlying22 hi hz0 hz1 hz2 rfl (.slice (some ⟨w7.heap.size, 0, none⟩) 0 0) 0 [] rfl (World.ownsRow_lit w7 #[] 0 S7 (by simp) rfl) _ res rfl R7.out ?_ ?_ ?_
                   · rw [LR.out]; omega
                   · exact D8.out.size
                   intro v9 w9 own9 g9)
    go_ret
    rw [← HRS.out]
    exact ⟨_, rfl, own_mono (base := wb.heap.size) (by simpa using own9) DB.out.size, DB.out.trans ((D8.out.grown g9 D8.out.size (fun k hk => by rw [← (show w7.heap.size = k by simpa [Value.ownBlock] using hk)]; exact S7)).mono DB.out.size)⟩
end Go.Proofs.YtpjidfcbckndfaaDoor
