/- Part 37 of the words that the laws share: CBlk. No condition of its own: each theorem says its own. -/
import Derived.Test.YtmoffodmbbkolaaDoorPart36
import Derived.Great.Ranges

/- The contract of chacha's (words).block: the block whose words at the beginning these are. Conditions: sixteen words that fit; the table of the places as it is laid. -/
namespace Go.Proofs.YtmoffodmbbkolaaDoor
open Go.RowKit

theorem padC_nil : padC [] = List.replicate 64 (Value.int .u8 0) := by simp [padC, bv]
theorem padC_full {l : List UInt8} (h : l.length = 64) : padC l = l.map bv := by simp [padC, h]
theorem grown_below {w a b : World} {B G : Nat} (h : Below B w a) (hg : a.grownBy b (some G)) (hB : B ≤ a.heap.size) (hG : B ≤ G) : Below B w b := h.grown hg hB (fun k hk => by injection hk with e; omega)
set_option maxRecDepth 100000 in
set_option maxHeartbeats 2000000 in
theorem cblk_any (ws : List Nat) (w : World) (hok : okW ws) (hq : Qs w) :
    Calls Tryd.prog 28 #[.agg (ws.map wv).toArray] w fun e w' => e = .returned (arrV (chaOut ws (dblN ws 10) 16)) ∧ Below w.heap.size w w' := by
  have HI40 : Hid ((Tryd.prog.info? 59).map (·.size) = some 16) := by show _ = _; kernel_rfl
  have HI64 : Hid ((Tryd.prog.info? 61).map (·.size) = some 64) := by show _ = _; kernel_rfl
  have HL : Hid ((ws.map wv).length = 16) := by show _ = _; rw [List.length_map, hok.1]
  obtain ⟨W1, hW1⟩ : ∃ W : World, W = ((w.alloc (.cells (ws.map wv).toArray 59)).alloc (.cells (List.replicate 64 (Value.int .u8 0)).toArray 61)).alloc (.cells (List.replicate 16 (Value.int .u32 0)).toArray 59) := ⟨_, rfl⟩
  have S1 : W1.heap.size = w.heap.size + 1 + 1 + 1 := by rw [hW1]; simp
  have D1 : Hid (Below w.heap.size w W1) := Lib.hid (by rw [hW1]; exact (((Below.refl _ _).alloc (Nat.le_refl _) _).alloc (by simp) _).alloc (by simp; omega) _)
  have A1 : Hid (Blk W1 w.heap.size 59 (ws.map wv)) := Lib.hid (by rw [hW1]; exact ((Blk.made w _ _).alloc _).alloc _)
  have R1 : Hid (Blk W1 (w.heap.size + 1) 61 (List.replicate 64 (Value.int .u8 0))) := Lib.hid (by
    have h := (Blk.made (w.alloc (.cells (ws.map wv).toArray 59)) 61 (List.replicate 64 (Value.int .u8 0))).alloc (.cells (List.replicate 16 (Value.int .u32 0)).toArray 59)
    rw [World.size_alloc] at h
    rw [hW1]
    exact h)
  have M1 : Hid (Blk W1 (w.heap.size + 1 + 1) 59 (List.replicate 16 (Value.int .u32 0))) := Lib.hid (by
    have h := Blk.made ((w.alloc (.cells (ws.map wv).toArray 59)).alloc (.cells (List.replicate 64 (Value.int .u8 0)).toArray 61)) 59 (List.replicate 16 (Value.int .u32 0))
    rw [World.size_alloc, World.size_alloc] at h
    rw [hW1]
    exact h)
  have A0 : Hid (Blk ((w.alloc (.cells (ws.map wv).toArray 59)).alloc (.cells (List.replicate 64 (Value.int .u8 0)).toArray 61)) w.heap.size 59 (ws.map wv)) := Lib.hid ((Blk.made w _ _).alloc _)
  have OK := Lib.hid hok
  have OK2 := Lib.hid (dblN_ok hok 10)
  have HQ1 := Lib.hid (hq.below D1.out)
  have HS1 := Lib.hid S1
  clear hok hq S1
  subst hW1
  go_enter Tryd.func28, Tryd.ntmps28
  go_wp2_with (first
               | refine Go.Great.wpList_boxTo rfl _ _ rfl _ rfl w.heap.size rfl ((ws.map wv).toArray) rfl ?_
               | refine wpList_load_blk rfl 59 (.tmp 1) rfl w.heap.size rfl 59 (ws.map wv) _ A0.out Tryd.underlying59 rfl (by rw [HL.out]; exact HI40.out) ?_
               | refine wpList_store_blk rfl 59 (.tmp 3) (.tmp 10) rfl (w.heap.size + 1 + 1) 59 _ M1.out (ws.map wv) rfl rfl (by rw [HL.out]; rfl) (by rw [HL.out]; exact HI40.out) (wv_one _) ?_
                 intro w2 hb2 hs2
                 have M2 := Lib.hid hb2
                 have A2 := Lib.hid (hs2.blk A1.out (by omega))
                 have R2 := Lib.hid (hs2.blk R1.out (by omega))
                 have D2 : Hid (Below w.heap.size w w2) := Lib.hid (D1.out.trans (hs2.below.mono (by omega)))
                 have HQ2 : Hid (Qs w2) := Lib.hid ⟨by have := HQ1.out.1; rw [hs2.size]; exact this, fun i hi => (hs2.cell (p := ⟨0, i, none⟩) (by show 0 ≠ w.heap.size + 1 + 1; omega)).trans (HQ1.out.2 i hi)⟩
                 have S2 : w2.heap.size = w.heap.size + 1 + 1 + 1 := hs2.size.trans HS1.out
                 have HS2 := Lib.hid S2
                 clear hb2 hs2 A1 R1 D1 HQ1 A0 HS1 M1 S2)
  refine rnd_loop _ _ _ _ _ _ _ _ _ _ _ _ _ _ _ _ _ _ _ _ _ _ _ _ _ _ _ _ _ _ _ _ _ _ _ _ _ _ _ _ _ _ _ _ _ _ (w.heap.size + 1 + 1) 59 ws w2 (by omega) M2 OK HQ2 (Lib.hid ?_)
  intro u4 u11 u12 u13 u14 u15 u16 u17 u18 u19 u20 u21 w3 hb3 hg3
  have A3 := Lib.hid (A2.out.grew hg3.out (by intro e; injection e with e; omega))
  have R3 := Lib.hid (R2.out.grew hg3.out (by intro e; injection e with e; omega))
  have D3 : Hid (Below w.heap.size w w3) := Lib.hid (grown_below D2.out hg3.out D2.out.size (by omega))
  have HLD : Hid (((dblN ws 10).map wv).length = 16) := by show _ = _; rw [List.length_map, OK2.out.1]
  have S3 : w.heap.size + 1 + 1 + 1 ≤ w3.heap.size := Nat.le_trans (Nat.le_of_eq HS2.out.symm) hg3.out.size
  have HS3 := Lib.hid S3
  have M3 : Hid (Blk (w3.alloc (.cells (List.replicate 64 (Value.int .u8 0)).toArray 61)) (w.heap.size + 1 + 1) 59 ((dblN ws 10).map wv)) := Lib.hid (hb3.out.alloc _)
  have A4 : Hid (Blk (w3.alloc (.cells (List.replicate 64 (Value.int .u8 0)).toArray 61)) w.heap.size 59 (ws.map wv)) := Lib.hid (A3.out.alloc _)
  have R4 : Hid (Blk (w3.alloc (.cells (List.replicate 64 (Value.int .u8 0)).toArray 61)) (w.heap.size + 1) 61 (List.replicate 64 (Value.int .u8 0))) := Lib.hid (R3.out.alloc _)
  have N4 : Hid (Blk (w3.alloc (.cells (List.replicate 64 (Value.int .u8 0)).toArray 61)) w3.heap.size 61 (padC [])) := Lib.hid (by rw [padC_nil]; exact Blk.made w3 _ _)
  have D4 : Hid (Below w.heap.size w (w3.alloc (.cells (List.replicate 64 (Value.int .u8 0)).toArray 61))) := Lib.hid (D3.out.alloc D3.out.size _)
  clear hb3 hg3 A3 R3 D3 A2 R2 D2 HQ2 HS2 M2 S3
  go_wp2_with (refine wpList_load_blk rfl 59 (.tmp 3) rfl (w.heap.size + 1 + 1) rfl 59 ((dblN ws 10).map wv) _ M3.out Tryd.underlying59 rfl (by rw [HLD.out]; exact HI40.out) ?_)
  refine wds_loop _ _ _ _ _ _ _ _ _ _ _ _ _ _ _ _ _ _ _ _ _ _ _ _ _ _ _ _ _ _ _ _ _ _ _ _ _ _ _ _ _ _ _ _ w3.heap.size w.heap.size 61 59 ws (dblN ws 10) OK OK2 _ (by have := HS3.out; omega) A4 N4 (Lib.hid ?_)
  intro u6 u7 u8 u9 u23 u24 u25 u26 u27 u28 u29 u30 u31 u32 u33 u34 u35 u36 u37 u38 u39 u40 u41 u42 u43 u44 u45 u46 w5 hb5 hs5
  obtain ⟨res, hres⟩ := ex_eq1 (chaOut ws (dblN ws 10) 16)
  have HR : Hid (res.length = 64) := by show _ = _; rw [hres, chaOut_length]
  have hb := hb5.out
  rw [← hres, padC_full HR.out] at hb
  have N5 := Lib.hid hb
  have R5 := Lib.hid (hs5.out.blk R4.out (by have := HS3.out; omega))
  have D5 : Hid (Below w.heap.size w w5) := Lib.hid (D4.out.trans (hs5.out.below.mono (by have := HS3.out; omega)))
  have HRM : Hid ((res.map bv).length = 64) := by show _ = _; rw [List.length_map, HR.out]
  have HRES := Lib.hid hres
  clear hb hb5 hs5 hres M3 A4 R4 N4 D4
  go_wp2_with (first
    | (refine wpList_load_blk rfl 61 (.tmp 5) rfl w3.heap.size rfl 61 (res.map bv) _ N5.out Tryd.underlying61 rfl (by rw [HRM.out]; exact HI64.out) ?_)
    | (refine wpList_store_blk rfl 61 (.tmp 2) (.tmp 47) rfl (w.heap.size + 1) 61 _ R5.out (res.map bv) rfl rfl (by rw [HRM.out]; rfl) (by rw [HRM.out]; exact HI64.out) (bv_one _) ?_; intro w9 hb9 hs9))
  refine bodyPost_ret (v := arrV (chaOut ws (dblN ws 10) 16)) ?_ rfl ⟨rfl, D5.out.trans (hs9.below.mono (by omega))⟩
  rw [← HRES.out]
  exact results_blk (ty := 61) Tryd.results28 _ w9 (w.heap.size + 1) 61 (res.map bv) _ rfl hb9 Tryd.underlying61 rfl (by rw [HRM.out]; exact HI64.out)
end Go.Proofs.YtmoffodmbbkolaaDoor
