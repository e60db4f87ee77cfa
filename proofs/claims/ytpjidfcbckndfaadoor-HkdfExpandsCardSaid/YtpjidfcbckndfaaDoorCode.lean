/- The contract of hkdf's code: the published code of parts by a key. Conditions: at least one part, at most 900000 bytes in all; the table of the rounds as it is laid. -/
import Derived.Test.YtpjidfcbckndfaaDoorPad
import Derived.Great.Ranges
import Derived.StillTailTactics
namespace Go.Proofs.YtpjidfcbckndfaaDoor
open Go.RowKit

theorem info_sl : (Tryd.prog.info? 22).map (fun i => (i.zero, i.size, i.bytes)) = some (some (.slice none 0 0), 1, 24) := by kernel_rfl
theorem hkB_low (key : List UInt8) : ((hkB key).drop 0).take 64 = padX (keyB key) 54 := by
  unfold hkB
  rw [List.drop_zero, List.take_append_of_le_length (by rw [padX_length (keyB_le key)]; omega), List.take_of_length_le (by rw [padX_length (keyB_le key)]; omega)]
theorem hkB_high (key : List UInt8) : ((hkB key).drop 64).take 64 = padX (keyB key) 92 := by
  unfold hkB
  rw [List.drop_append, padX_length (keyB_le key), List.drop_of_length_le (by rw [padX_length (keyB_le key)]; omega), List.nil_append, Nat.sub_self, List.drop_zero, List.take_of_length_le (by rw [padX_length (keyB_le key)]; omega)]
theorem own_lit1 {w : World} {base n : Nat} {e : TypeId} {u : Value} (hn : w.heap.size = n) (hb : base ≤ n) : (w.alloc (.cells #[u] e)).ownsRow base e 1 (.slice (some ⟨n, 0, none⟩) 1 1) 1 [u] := by
  subst hn
  exact World.ownsRow_lit w #[u] 1 hb (by unfold maxLen; omega) rfl
set_option maxRecDepth 100000 in
set_option maxHeartbeats 1000000 in
theorem code_any (key : List UInt8) (v : Value) (xss : List (List UInt8)) (w : World) (hv : Rs w v xss) (h0 : 0 < xss.length) (hx : xss.length ≤ 900000) (hl : xss.flatten.length ≤ 900000) (hs : Salts w) :
    Calls Tryd.prog 18 #[arrV (hkB key), v] w fun e w' => e = .returned (arrV (macB key xss.flatten)) ∧ Below w.heap.size w w' := by
  obtain ⟨i1, hi, hz0, hz1, hz2⟩ := info_parts info_sl
  have HIS : Hid ((Tryd.prog.info? 26).map (·.size) = some 32) := by show _ = _; kernel_rfl
  obtain ⟨g, c, us, rfl, hg, hcell, hall⟩ := hv.cells
  have HUL : Hid (us.length = xss.length) := Lib.hid hall.length
  obtain ⟨hk, hhk⟩ := ex_eq1 (hkB key)
  have LHK : Hid (hk.length = 128) := by show _ = _; rw [hhk, hkB_length]
  obtain ⟨W1, hW1⟩ : ∃ W : World, W = (w.alloc (.cells (hk.map bv).toArray 42)).alloc (.cells (List.replicate 32 (Value.int .u8 0)).toArray 26) := ⟨_, rfl⟩
  have S1 : Hid (W1.heap.size = w.heap.size + 1 + 1) := by show _ = _; rw [hW1]; simp
  have D1 : Below w.heap.size w W1 := by rw [hW1]; exact ((Below.refl _ _).alloc (Nat.le_refl _) _).alloc (by simp) _
  have B1 : Hid (Blk W1 w.heap.size 42 (hk.map bv)) := Lib.hid (by rw [hW1]; exact (Blk.made w _ _).alloc _)
  have R1 : Hid (Blk W1 (w.heap.size + 1) 26 (List.replicate 32 (Value.int .u8 0))) := Lib.hid (by
    have h := Blk.made (w.alloc (.cells (hk.map bv).toArray 42)) 26 (List.replicate 32 (Value.int .u8 0))
    rw [World.size_alloc] at h
    rw [hW1]
    exact h)
  have P1 : Hid (Rd W1 (.slice (some ⟨w.heap.size, 0, none⟩) 64 64) (padX (keyB key) 54)) := Lib.hid (by
    have h := B1.out.rdo 0 64 64 (by rw [LHK.out]; omega) (by omega) (by unfold maxLen; omega)
    rw [hhk, hkB_low] at h
    exact h)
  have Q1 : Hid (Rd W1 (.slice (some ⟨w.heap.size, 64, none⟩) 64 64) (padX (keyB key) 92)) := Lib.hid (by
    have h := B1.out.rdo 64 64 64 (by rw [LHK.out]; omega) (by omega) (by unfold maxLen; omega)
    rw [hhk, hkB_high] at h
    exact h)
  have A1 := Lib.hid (hall.below D1)
  have HS1 := Lib.hid (hs.below D1)
  have HC1 : Hid (∀ j u, us[j]? = some u → (W1.alloc (.cells #[.slice (some ⟨w.heap.size, 0, none⟩) 64 64] 22)).cell? ((⟨g, 0, none⟩ : Addr).add j) = some u) := Lib.hid (fun j u hj => by
    rw [Addr.add_mid, Nat.zero_add, World.cell?_alloc_lt _ _ ⟨g, j, none⟩ (by have := S1.out; show g < W1.heap.size; omega), D1.cell (p := ⟨g, j, none⟩) hg]
    exact hcell j u hj)
  have HXL := Lib.hid hx
  have HX0 := Lib.hid h0
  have HFL := Lib.hid hl
  have HD1 := Lib.hid D1
  have HLM : Hid ((hk.map bv).length = 128) := by show _ = _; rw [List.length_map, LHK.out]
  have S0 : Hid (w.heap.size + 1 + 1 ≤ W1.heap.size) := Lib.hid (by have := S1.out; omega)
  rw [← hhk]
  have HHK := Lib.hid hhk
  clear hv h0 hx hl hs hcell hall D1 hhk hg S0
  subst hW1
  unfold arrV
  go_enter Tryd.func18, Tryd.ntmps18
  go_wp2_with (first
               | refine Go.Great.wpList_boxTo rfl _ _ rfl _ rfl w.heap.size rfl ((hk.map bv).toArray) rfl ?_
               | at_builtin
                 refine wpList_append_own _ rfl (.tmp 8) (.tmp 9) _ rfl (w.heap.size + 1 + 1) 22 i1 _ 1 24 Tryd.underlying48 hi hz0 hz1 hz2 rfl (by decide) (.slice (some ⟨w.heap.size + 1 + 1, 0, none⟩) 1 1) 1 [.slice (some ⟨w.heap.size, 0, none⟩) 64 64] rfl (own_lit1 ?q1 ?q2) ⟨g, 0, none⟩ us.length c us rfl (by simp) HC1.out (A1.out.one) ?_ ?_ ?_ ?_
                 · exact S1.out
                 · omega
                 · have := HUL.out; have := HXL.out; unfold maxLen; omega
                 · have := HUL.out; have := HXL.out; omega
                 · simp
                 intro v2 w2 own2 g2 _
                 have b2 := ((Below.refl _ _).alloc (Nat.le_refl _) (.cells #[.slice (some ⟨w.heap.size, 0, none⟩) 64 64] 22)).grown g2 (by simp) (fun k hk => Nat.le_of_eq (S1.out.trans (by simpa [Value.ownBlock] using hk)))
                 have RS2 := Lib.hid (rs_of_own own2 (us := .slice (some ⟨w.heap.size, 0, none⟩) 64 64 :: us) (xss := padX (keyB key) 54 :: xss) ⟨P1.out.below b2, A1.out.below b2⟩ (by simp))
                 have Q2 := Lib.hid (Q1.out.below b2)
                 have R2 := Lib.hid (R1.out.below b2 R1.out.lt)
                 have BK2 := Lib.hid (B1.out.below b2 B1.out.lt)
                 have HS2 := Lib.hid (HS1.out.below b2)
                 have D2 : Hid (Below w.heap.size w w2) := Lib.hid (HD1.out.trans (b2.mono (Nat.le_trans (Nat.le_add_right _ 2) (Nat.le_of_eq S1.out.symm))))
                 clear own2 g2 b2)
  refine (of_any _ (padX (keyB key) 54 :: xss) _ RS2.out (by have := HFL.out; have := padX_length (keyB_le key) 54; simp only [List.flatten_cons, List.length_append]; omega) (by have := HXL.out; simp; omega) HS2.out).mono ?_
  rintro e w3 ⟨rfl, hb3⟩
  obtain ⟨inner, hin⟩ := ex_eq1 (shaB (padX (keyB key) 54 :: xss).flatten)
  rw [← hin]
  have LI : Hid (inner.length = 32) := by show _ = _; rw [hin, shaB_len]
  have LIM : Hid ((inner.map bv).length = 32) := by show _ = _; rw [List.length_map, LI.out]
  have HIN := Lib.hid hin
  have Q3 := Lib.hid (Q2.out.below hb3)
  have R3 := Lib.hid (R2.out.below hb3 R2.out.lt)
  have BK3 := Lib.hid (BK2.out.below hb3 BK2.out.lt)
  have HS3 := Lib.hid (HS2.out.below hb3)
  have D3 : Hid (Below w.heap.size w w3) := Lib.hid (D2.out.trans (hb3.mono D2.out.size))
  have HB3 := Lib.hid (Blk.made w3 26 (List.replicate 32 (Value.int .u8 0)))
  clear hb3 hin
  go_wp2_with (refine wpList_store_blk rfl 26 _ _ rfl w3.heap.size 26 _ HB3.out (inner.map bv) rfl rfl (by rw [LIM.out]; rfl) (by rw [LIM.out]; exact HIS.out) (bv_one _) ?_
               intro w4 hb4 hs4
               have r4 := hb4.rd 32 32 (by rw [LI.out]; omega) (by omega) (by unfold maxLen; omega)
               rw [List.take_of_length_le (by rw [LI.out]; omega)] at r4
               have RS4 := Lib.hid (rs_lit2 (t := 22) (Rd.below Q3.out (((Below.refl _ _).alloc (Nat.le_refl _) (.cells (List.replicate 32 (Value.int .u8 0)).toArray 26)).trans hs4.below)).drew r4.drew)
               have R4 := Lib.hid (R3.out.below (((Below.refl _ _).alloc (Nat.le_refl _) (.cells (List.replicate 32 (Value.int .u8 0)).toArray 26)).trans hs4.below) R3.out.lt)
               have HS4 := Lib.hid (HS3.out.below (((Below.refl _ _).alloc (Nat.le_refl _) (.cells (List.replicate 32 (Value.int .u8 0)).toArray 26)).trans hs4.below))
               have D4 : Hid (Below w.heap.size w w4) := Lib.hid (D3.out.trans ((((Below.refl _ _).alloc (Nat.le_refl _) (.cells (List.replicate 32 (Value.int .u8 0)).toArray 26)).trans hs4.below).mono D3.out.size))
               clear hb4 hs4 r4 HB3)
  go_still_tail 3, (by kernel_rfl)
  change wpList _ _ _ _ _ w4.drew
  go_wp2_with (fail)
  refine (of_any _ [padX (keyB key) 92, inner] _ RS4.out (by have := padX_length (keyB_le key) 92; have := LI.out; simp; omega) (by simp) (HS4.out.alloc _)).mono ?_
  rintro e w5 ⟨rfl, hb5⟩
  obtain ⟨res, hres⟩ := ex_eq1 (shaB [padX (keyB key) 92, inner].flatten)
  rw [← hres]
  have LR : Hid (res.length = 32) := by show _ = _; rw [hres, shaB_len]
  have LRM : Hid ((res.map bv).length = 32) := by show _ = _; rw [List.length_map, LR.out]
  have HRES : Hid (res = macB key xss.flatten) := by
    show _ = _
    rw [hres, HIN.out]
    simp [macB]
  have R5 := Lib.hid ((R4.out.drew.alloc _).below hb5 (R4.out.drew.alloc _).lt)
  have D5 : Hid (Below w.heap.size w w5) := Lib.hid ((D4.out.drew.alloc D4.out.size (.cells #[.slice (some ⟨w.heap.size, 64, none⟩) 64 64, .slice (some ⟨w3.heap.size, 0, none⟩) 32 32] 22)).trans (hb5.mono (by have := D4.out.size; simp; omega)))
  clear hb5 hres
  go_wp2_with (refine wpList_store_blk rfl 26 _ _ rfl (w.heap.size + 1) 26 _ R5.out (res.map bv) rfl rfl (by rw [LRM.out]; rfl) (by rw [LRM.out]; exact HIS.out) (bv_one _) ?_; intro w6 hb6 hs6)
  refine bodyPost_ret (v := arrV res) ?_ rfl ⟨by rw [HRES.out]; rfl, D5.out.trans (hs6.below.mono (by omega))⟩
  exact results_blk (ty := 26) Tryd.results18 _ w6 (w.heap.size + 1) 26 (res.map bv) _ rfl hb6 Tryd.underlying26 rfl (by rw [LRM.out]; exact HIS.out)
end Go.Proofs.YtpjidfcbckndfaaDoor
