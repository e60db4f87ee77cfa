/- The contract of sha.spreadOut: a word for each round of a block. Conditions: a block of 64 bytes. -/
import Derived.Test.YtpjidfcbckndfaaDoorSpreadB
namespace Go.Proofs.YtpjidfcbckndfaaDoor
open Go.RowKit

/-- The value of a row of words that is an array. -/
def wordsV (ds : List Nat) : Value := .agg (ds.map wv).toArray
/-- The words of the rounds. -/
def spreadN (bs : List UInt8) : List Nat := schedN 48 (wordsAt bs 0 16)
theorem spreadN_length (bs : List UInt8) : (spreadN bs).length = 64 := by unfold spreadN; rw [schedN_length, wordsAt_length]
theorem spreadN_lt (bs : List UInt8) : ∀ x ∈ spreadN bs, x < 4294967296 := schedN_lt (wordsAt_lt _ _ _) 48
theorem wv_one (ds : List Nat) : ∀ u ∈ ds.map wv, u.oneCell' = true := by
  intro u hu
  obtain ⟨b, _, rfl⟩ := List.mem_map.1 hu
  rfl
set_option maxRecDepth 100000 in
set_option maxHeartbeats 2000000 in
theorem spread_any (b : Nat) (bs : List UInt8) (w : World) (hb : Blk w b 40 (bs.map bv)) (hl : bs.length = 64) :
    Calls Tryd.prog 34 #[.pointer (some ⟨b, 0, none⟩)] w fun e w' => e = .returned (wordsV (spreadN bs)) ∧ Below w.heap.size w w' := by
  have HB0 : Hid (Blk ((w.alloc (.cells (List.replicate 64 (Value.int .u32 0)).toArray 63)).alloc (.cells (List.replicate 64 (Value.int .u32 0)).toArray 63)) b 40 (bs.map bv)) := Lib.hid ((hb.alloc _).alloc _)
  have HS0 : Hid (Blk ((w.alloc (.cells (List.replicate 64 (Value.int .u32 0)).toArray 63)).alloc (.cells (List.replicate 64 (Value.int .u32 0)).toArray 63)) (w.heap.size + 1) 63 (wordsC [])) := by
    have h := Blk.made (w.alloc (.cells (List.replicate 64 (Value.int .u32 0)).toArray 63)) 63 (List.replicate 64 (Value.int .u32 0))
    simp only [World.size_alloc] at h
    exact h
  have hlt : b < w.heap.size + 1 := Nat.lt_succ_of_lt hb.lt
  have HL := Lib.hid hl
  have HLN : Hid (((spreadN bs).map wv).length = 64) := by show ((spreadN bs).map wv).length = 64; rw [List.length_map, spreadN_length]
  have HI : Hid ((Tryd.prog.info? 63).map (·.size) = some 64) := by show _ = _; kernel_rfl
  clear hb hl
  go_enter Tryd.func34, Tryd.ntmps34
  go_wp2_with (fail)
  refine first_loop _ _ _ _ _ _ _ _ _ _ _ _ _ _ _ _ _ _ _ _ _ _ _ _ _ _ _ _ _ _ _ _ _ _ _ _ _ _ _ _ _ _ _ _ _ _ _ _ _ _ _ _ _ _ _ _ _ _ _ _ _ _ _ _ _ _ _ _ _ _ _ _ _ _ _ _ _ _ _ _ _ _ _ _ _ _ _ _ bs HL.out _ b (w.heap.size + 1) HB0 hlt HS0 (Lib.hid ?_)
  intro u4 u5 u12 u13 u14 u15 u16 u17 u18 u19 u20 u21 u22 u23 u24 u25 u26 u27 u28 u29 u30 u31 u32 u33 u34 u35 u36 u37 u38 u39 u40 u41 u42 u43 u44 u45 u46 w1 hb1 hl1
  go_wp2_with (fail)
  refine further_loop _ _ _ _ _ _ _ _ _ _ _ _ _ _ _ _ _ _ _ _ _ _ _ _ _ _ _ _ _ _ _ _ _ _ _ _ _ _ _ _ _ _ _ _ _ _ _ _ _ _ _ _ _ _ _ _ _ _ _ _ _ _ _ _ _ _ _ _ _ _ _ _ _ _ _ _ _ _ _ _ _ _ _ _ _ _ _ _ _ (wordsAt bs 0 16) (Lib.hid ⟨wordsAt_length _ _ _, wordsAt_lt _ _ _⟩) w1 (w.heap.size + 1) hb1 (Lib.hid ?_)
  intro u7 u8 u9 u10 u47 u48 u49 u50 u51 u52 u53 u54 u55 u56 u57 u58 u59 u60 u61 u62 u63 u64 u65 u66 u67 u68 u69 u70 u71 u72 u73 u74 u75 u76 u77 u78 u79 u80 u81 u82 u83 u84 u85 u86 u87 u88 u89 w2 hb2 hl2
  have D := Lib.hid (hl1.out.trans hl2.out)
  have hS := hb2.out
  have e : wordsC (schedN 48 (wordsAt bs 0 16)) = (spreadN bs).map wv := by
    unfold wordsC
    rw [schedN_length, wordsAt_length]
    simp [spreadN]
  rw [e] at hS
  have HS := Lib.hid hS
  have HR : Hid (Blk w2 w.heap.size 63 (List.replicate 64 (Value.int .u32 0))) := ((Blk.made w 63 (List.replicate 64 (Value.int .u32 0))).alloc _).below D.out (by omega)
  clear hS e hb1 hb2 hl1 hl2 HB0 HS0
  go_wp2_with (first
    | (refine wpList_load_blk rfl 63 _ rfl (w.heap.size + 1) rfl 63 ((spreadN bs).map wv) _ HS.out Tryd.underlying63 rfl (by rw [HLN.out]; exact HI.out) ?_)
    | (refine wpList_store_blk rfl 63 _ _ rfl w.heap.size 63 _ HR.out ((spreadN bs).map wv) rfl rfl (by rw [HLN.out]; rfl) (by rw [HLN.out]; exact HI.out) (wv_one _) ?_; intro w9 hb9 hs9))
  refine bodyPost_ret (v := wordsV (spreadN bs)) ?_ rfl ⟨rfl, ?_⟩
  · exact results_blk (ty := 63) Tryd.results34 _ w9 w.heap.size 63 ((spreadN bs).map wv) _ rfl hb9 Tryd.underlying63 rfl (by rw [HLN.out]; exact HI.out)
  · exact (((Below.refl _ _).alloc (Nat.le_refl _) _).alloc (by simp) _).trans ((D.out.mono (by omega)).trans hs9.below)
end Go.Proofs.YtpjidfcbckndfaaDoor
