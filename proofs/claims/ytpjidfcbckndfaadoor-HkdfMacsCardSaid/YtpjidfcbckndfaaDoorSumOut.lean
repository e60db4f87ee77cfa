/- The contract of sha's sum: the words as bytes. Conditions: words that fit uint32. -/
import Derived.Test.YtpjidfcbckndfaaDoorSumOutA
import Derived.Test.YtpjidfcbckndfaaDoorThrough
import Derived.Test.YtpjidfcbckndfaaDoorRefSum
namespace Go.Proofs.YtpjidfcbckndfaaDoor
open Go.RowKit

def SoutRel (s : St) (w : World) (S : Nat) (v : Value) (wr : World) : Prop :=
  ∃ i : Nat, v = .int .i64 (i : Int) ∧ i ≤ 8 ∧ Blk wr S 26 (outC s.bytes (4 * i)) ∧ Below S w wr
theorem index_words (s : St) (i : Nat) (hi : i < 8) (W : World) : (Instr.index 57 (stV s) (.int .i64 (i : Int))).run Tryd.prog W = .ok (.int .u32 ((s.list.getD i 0 : Nat) : Int)) W := by
  have h : i = 0 ∨ i = 1 ∨ i = 2 ∨ i = 3 ∨ i = 4 ∨ i = 5 ∨ i = 6 ∨ i = 7 := by omega
  rcases h with rfl | rfl | rfl | rfl | rfl | rfl | rfl | rfl <;> rfl
noncomputable def body_sout : Code := (((Tryd.f33.body.map loopsOf).getD [])[0]?).getD .skip
set_option maxRecDepth 100000 in
set_option maxHeartbeats 1000000 in
theorem sout_loop (c0 c1 c2 c4 c5 c6 c9 c10 c11 c12 c13 c14 c15 c16 c17 c18 c19 c20 c21 c22 c23 c24 c25 c26 c27 c28 : Value) (s : St) (hs : Hid s.ok) (w : World) (S : Nat) (h0 : Hid (Blk w S 26 (outC s.bytes 0))) {Q : Exit → Act → World → Prop}
    (HQ : Hid (∀ (u4 u5 u6 u9 u10 u11 u12 u13 u14 u15 u16 u17 u18 u19 u20 u21 u22 u23 u24 u25 u26 u27 : Value) (wx : World), Hid (Blk wx S 26 (outC s.bytes 32)) → Hid (Below S w wx) → Q (.exit 0) ⟨List.toArray (c0 :: c1 :: c2 :: (.pointer (some ⟨S, 0, none⟩)) :: u4 :: u5 :: u6 :: (stV s) :: (.int .i64 8) :: u9 :: u10 :: u11 :: u12 :: u13 :: u14 :: u15 :: u16 :: u17 :: u18 :: u19 :: u20 :: u21 :: u22 :: u23 :: u24 :: u25 :: u26 :: u27 :: c28 :: []), []⟩ wx)) :
    (Code.loop body_sout).wp Tryd.prog Q ⟨List.toArray (c0 :: c1 :: c2 :: (.pointer (some ⟨S, 0, none⟩)) :: c4 :: c5 :: c6 :: (stV s) :: (.int .i64 0) :: c9 :: c10 :: c11 :: c12 :: c13 :: c14 :: c15 :: c16 :: c17 :: c18 :: c19 :: c20 :: c21 :: c22 :: c23 :: c24 :: c25 :: c26 :: c27 :: c28 :: []), []⟩ w := by
  unfold body_sout
  conv => arg 2; arg 1; whnf
  go_loopw [8] (fun v wx => SoutRel s w S v wx) (fun v _ => 8 - (intOf v).toNat)
  case atStart => exact ⟨0, rfl, by omega, h0.out, Below.refl _ _⟩
  case round =>
    obtain ⟨i, rfl, hi, hblk, bl⟩ := hrel
    by_cases hlt : i < 8
    · have hI : (i : Int) < 8 := by omega
      have HX := fun W => index_words s i hlt W
      have HB := Lib.hid hblk
      have HL := Lib.hid bl
      clear hblk bl
      go_wp2_with (fail)
      refine sin_loop _ _ _ _ _ _ _ _ _ _ _ _ _ _ _ _ _ _ _ _ _ _ _ _ _ s hs i hlt wr S HB (Lib.hid ?_)
      intro u6 u13 u14 u15 u16 u17 u18 u19 u20 u21 u22 u23 u24 u25 u26 w1 hb1 hl1
      go_wp2_with (fail)
      go_roundw
      case rel => exact ⟨i + 1, by go_num, by omega, by rw [show 4 * (i + 1) = 4 * i + 4 by omega]; exact hb1.out, HL.out.trans hl1.out⟩
      case measure => simp [intOf]; omega
    · obtain rfl : i = 8 := by omega
      have HB := Lib.hid hblk
      have HL := Lib.hid bl
      clear hblk bl
      go_wp2_with (fail)
      exact HQ.out _ _ _ _ _ _ _ _ _ _ _ _ _ _ _ _ _ _ _ _ _ _ _ HB HL

set_option maxRecDepth 100000 in
set_option maxHeartbeats 1000000 in
theorem sumOut_any (s : St) (w : World) (hs : s.ok) :
    Calls Tryd.prog 33 #[stV s] w fun e w' => e = .returned (arrV s.bytes) ∧ Below w.heap.size w w' := by
  have HS := Lib.hid hs
  have HI : Hid ((Tryd.prog.info? 26).map (·.size) = some 32) := by show _ = _; kernel_rfl
  have HLN : Hid ((s.bytes.map bv).length = 32) := by show (s.bytes.map bv).length = 32; rw [List.length_map, St.bytes_length]
  clear hs
  obtain ⟨s, hst⟩ : ∃ t, t = s := ⟨_, rfl⟩
  subst hst
  obtain ⟨sa, sb, sc, sd, se, sf, sg, sh⟩ := s
  unfold stV wordsV
  change Calls _ _ #[.agg #[.int .u32 (sa : Int), .int .u32 (sb : Int), .int .u32 (sc : Int), .int .u32 (sd : Int), .int .u32 (se : Int), .int .u32 (sf : Int), .int .u32 (sg : Int), .int .u32 (sh : Int)]] _ _
  go_enter Tryd.func33, Tryd.ntmps33
  go_wp2_with (fail)
  refine sout_loop _ _ _ _ _ _ _ _ _ _ _ _ _ _ _ _ _ _ _ _ _ _ _ _ _ _ ⟨sa, sb, sc, sd, se, sf, sg, sh⟩ HS _ (w.heap.size + 1 + 1) ?_ (Lib.hid ?_)
  · have h := Blk.made ((w.alloc (.cells #[.int .u32 (sa : Int), .int .u32 (sb : Int), .int .u32 (sc : Int), .int .u32 (sd : Int), .int .u32 (se : Int), .int .u32 (sf : Int), .int .u32 (sg : Int), .int .u32 (sh : Int)] 57)).alloc (.cells (List.replicate 32 (Value.int .u8 0)).toArray 26)) 26 (List.replicate 32 (Value.int .u8 0))
    simp only [World.size_alloc] at h
    exact Lib.hid h
  intro u4 u5 u6 u9 u10 u11 u12 u13 u14 u15 u16 u17 u18 u19 u20 u21 u22 u23 u24 u25 u26 u27 w1 hb1 hl1
  have hb := hb1.out
  have eC : outC (St.bytes ⟨sa, sb, sc, sd, se, sf, sg, sh⟩) 32 = (St.bytes ⟨sa, sb, sc, sd, se, sf, sg, sh⟩).map bv := by unfold outC; rw [List.take_of_length_le (by rw [St.bytes_length]; omega)]; simp
  rw [eC] at hb
  have HB8 := Lib.hid hb
  have HR9 : Hid (Blk w1 (w.heap.size + 1) 26 (List.replicate 32 (Value.int .u8 0))) := by
    have h := (Blk.made (w.alloc (.cells #[.int .u32 (sa : Int), .int .u32 (sb : Int), .int .u32 (sc : Int), .int .u32 (sd : Int), .int .u32 (se : Int), .int .u32 (sf : Int), .int .u32 (sg : Int), .int .u32 (sh : Int)] 57)) 26 (List.replicate 32 (Value.int .u8 0))).alloc (.cells (List.replicate 32 (Value.int .u8 0)).toArray 26)
    simp only [World.size_alloc] at h
    exact h.below hl1.out (by omega)
  have HL1 := Lib.hid hl1.out
  clear hb eC hb1 hl1
  go_wp2_with (first
    | (refine wpList_load_blk rfl 26 _ rfl (w.heap.size + 1 + 1) rfl 26 _ _ HB8.out Tryd.underlying26 rfl (by rw [HLN.out]; exact HI.out) ?_)
    | (refine wpList_store_blk rfl 26 _ _ rfl (w.heap.size + 1) 26 _ HR9.out ((St.bytes ⟨sa, sb, sc, sd, se, sf, sg, sh⟩).map bv) rfl rfl (by rw [HLN.out]; rfl) (by rw [HLN.out]; exact HI.out) (bv_one _) ?_; intro w9 hb9 hs9))
  refine bodyPost_ret (v := arrV (St.bytes ⟨sa, sb, sc, sd, se, sf, sg, sh⟩)) ?_ rfl ⟨rfl, ?_⟩
  · exact results_blk (ty := 26) Tryd.results33 _ w9 (w.heap.size + 1) 26 ((St.bytes ⟨sa, sb, sc, sd, se, sf, sg, sh⟩).map bv) _ rfl hb9 Tryd.underlying26 rfl (by rw [HLN.out]; exact HI.out)
  · exact ((((Below.refl _ _).alloc (Nat.le_refl _) _).alloc (by simp) _).alloc (by simp; omega) _).trans ((HL1.out.mono (by omega)).trans (hs9.below.mono (by omega)))
end Go.Proofs.YtpjidfcbckndfaaDoor
