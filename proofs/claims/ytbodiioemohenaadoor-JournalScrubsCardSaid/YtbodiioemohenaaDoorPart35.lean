/- Part 35 of the words that the laws share: SumOut, End, ShaFlow, OfA. No condition of its own: each theorem says its own. -/
import Derived.Test.YtbodiioemohenaaDoorPart7
import Derived.Test.YtbodiioemohenaaDoorPart4
import Derived.Test.YtbodiioemohenaaDoorPart2

/- The contract of sha's sum: the words as bytes. Conditions: words that fit uint32. -/
namespace Go.Proofs.YtbodiioemohenaaDoor
open Go.RowKit

def SoutRel (s : St) (w : World) (S : Nat) (v : Value) (wr : World) : Prop :=
  ∃ i : Nat, v = .int .i64 (i : Int) ∧ i ≤ 8 ∧ Blk wr S 104 (outC s.bytes (4 * i)) ∧ Below S w wr
set_option maxRecDepth 100000 in
theorem index_words (s : St) (i : Nat) (hi : i < 8) (W : World) : (Instr.index 127 (stV s) (.int .i64 (i : Int))).run Tryd.prog W = .ok (.int .u32 ((s.list.getD i 0 : Nat) : Int)) W := by
  have h : i = 0 ∨ i = 1 ∨ i = 2 ∨ i = 3 ∨ i = 4 ∨ i = 5 ∨ i = 6 ∨ i = 7 := by omega
  rcases h with rfl | rfl | rfl | rfl | rfl | rfl | rfl | rfl <;> rfl
noncomputable def body_sout : Code := (((Tryd.f84.body.map loopsOf).getD [])[0]?).getD .skip
set_option maxRecDepth 100000 in
set_option maxHeartbeats 1000000 in
theorem sout_loop (c0 c1 c2 c4 c5 c6 c9 c10 c11 c12 c13 c14 c15 c16 c17 c18 c19 c20 c21 c22 c23 c24 c25 c26 c27 c28 : Value) (s : St) (hs : Hid s.ok) (w : World) (S : Nat) (h0 : Hid (Blk w S 104 (outC s.bytes 0))) {Q : Exit → Act → World → Prop}
    (HQ : Hid (∀ (u4 u5 u6 u9 u10 u11 u12 u13 u14 u15 u16 u17 u18 u19 u20 u21 u22 u23 u24 u25 u26 u27 : Value) (wx : World), Hid (Blk wx S 104 (outC s.bytes 32)) → Hid (Below S w wx) → Q (.exit 0) ⟨List.toArray (c0 :: c1 :: c2 :: (.pointer (some ⟨S, 0, none⟩)) :: u4 :: u5 :: u6 :: (stV s) :: (.int .i64 8) :: u9 :: u10 :: u11 :: u12 :: u13 :: u14 :: u15 :: u16 :: u17 :: u18 :: u19 :: u20 :: u21 :: u22 :: u23 :: u24 :: u25 :: u26 :: u27 :: c28 :: []), []⟩ wx)) :
    (Code.loop body_sout).wp Tryd.prog Q ⟨List.toArray (c0 :: c1 :: c2 :: (.pointer (some ⟨S, 0, none⟩)) :: c4 :: c5 :: c6 :: (stV s) :: (.int .i64 0) :: c9 :: c10 :: c11 :: c12 :: c13 :: c14 :: c15 :: c16 :: c17 :: c18 :: c19 :: c20 :: c21 :: c22 :: c23 :: c24 :: c25 :: c26 :: c27 :: c28 :: []), []⟩ w := by
  unfold body_sout
  conv => arg 2; arg 1; whnf
  go_loopw [8] (fun v wx => SoutRel s w S v wx) (fun v _ => 8 - (intOf v).toNat)
  case atStart => exact ⟨0, rfl, by omega, h0.out, Below.refl _ _⟩
  case round =>
    obtain ⟨i, rfl, hi, hblk, bl⟩ := hrel
    by_cases hlt : i < 8
    · have hI : (i : Int) < 8 := by omega
      have HX := fun W => index_words s i hlt W
      have HB := Lib.hid hblk
      have HL := Lib.hid bl
      clear hblk bl
      go_wp2_with (fail)
      refine sin_loop _ _ _ _ _ _ _ _ _ _ _ _ _ _ _ _ _ _ _ _ _ _ _ _ _ s hs i hlt wr S HB (Lib.hid ?_)
      intro u6 u13 u14 u15 u16 u17 u18 u19 u20 u21 u22 u23 u24 u25 u26 w1 hb1 hl1
      go_wp2_with (fail)
      go_roundw
      case rel => exact ⟨i + 1, by go_num, by omega, by rw [show 4 * (i + 1) = 4 * i + 4 by omega]; exact hb1.out, HL.out.trans hl1.out⟩
      case measure => simp [intOf]; omega
    · obtain rfl : i = 8 := by omega
      have HB := Lib.hid hblk
      have HL := Lib.hid bl
      clear hblk bl
      go_wp2_with (fail)
      exact HQ.out _ _ _ _ _ _ _ _ _ _ _ _ _ _ _ _ _ _ _ _ _ _ _ HB HL

set_option maxRecDepth 100000 in
set_option maxHeartbeats 1000000 in
theorem sumOut_any (s : St) (w : World) (hs : s.ok) :
    Calls Tryd.prog 84 #[stV s] w fun e w' => e = .returned (arrV s.bytes) ∧ Below w.heap.size w w' := by
  have HS := Lib.hid hs
  have HI : Hid ((Tryd.prog.info? 104).map (·.size) = some 32) := by show _ = _; kernel_rfl
  have HLN : Hid ((s.bytes.map bv).length = 32) := by show (s.bytes.map bv).length = 32; rw [List.length_map, St.bytes_length]
  clear hs
  obtain ⟨s, hst⟩ : ∃ t, t = s := ⟨_, rfl⟩
  subst hst
  obtain ⟨sa, sb, sc, sd, se, sf, sg, sh⟩ := s
  unfold stV wordsV
  change Calls _ _ #[.agg #[.int .u32 (sa : Int), .int .u32 (sb : Int), .int .u32 (sc : Int), .int .u32 (sd : Int), .int .u32 (se : Int), .int .u32 (sf : Int), .int .u32 (sg : Int), .int .u32 (sh : Int)]] _ _
  go_enter Tryd.func84, Tryd.ntmps84
  go_wp2_with (fail)
  refine sout_loop _ _ _ _ _ _ _ _ _ _ _ _ _ _ _ _ _ _ _ _ _ _ _ _ _ _ ⟨sa, sb, sc, sd, se, sf, sg, sh⟩ HS _ (w.heap.size + 1 + 1) ?_ (Lib.hid ?_)
  · have h := Blk.made ((w.alloc (.cells #[.int .u32 (sa : Int), .int .u32 (sb : Int), .int .u32 (sc : Int), .int .u32 (sd : Int), .int .u32 (se : Int), .int .u32 (sf : Int), .int .u32 (sg : Int), .int .u32 (sh : Int)] 127)).alloc (.cells (List.replicate 32 (Value.int .u8 0)).toArray 104)) 104 (List.replicate 32 (Value.int .u8 0))
    simp only [World.size_alloc] at h
    exact Lib.hid h
  intro u4 u5 u6 u9 u10 u11 u12 u13 u14 u15 u16 u17 u18 u19 u20 u21 u22 u23 u24 u25 u26 u27 w1 hb1 hl1
  have hb := hb1.out
  have eC : outC (St.bytes ⟨sa, sb, sc, sd, se, sf, sg, sh⟩) 32 = (St.bytes ⟨sa, sb, sc, sd, se, sf, sg, sh⟩).map bv := by unfold outC; rw [List.take_of_length_le (by rw [St.bytes_length]; omega)]; simp
  rw [eC] at hb
  have HB8 := Lib.hid hb
  have HR9 : Hid (Blk w1 (w.heap.size + 1) 104 (List.replicate 32 (Value.int .u8 0))) := by
    have h := (Blk.made (w.alloc (.cells #[.int .u32 (sa : Int), .int .u32 (sb : Int), .int .u32 (sc : Int), .int .u32 (sd : Int), .int .u32 (se : Int), .int .u32 (sf : Int), .int .u32 (sg : Int), .int .u32 (sh : Int)] 127)) 104 (List.replicate 32 (Value.int .u8 0))).alloc (.cells (List.replicate 32 (Value.int .u8 0)).toArray 104)
    simp only [World.size_alloc] at h
    exact h.below hl1.out (by omega)
  have HL1 := Lib.hid hl1.out
  clear hb eC hb1 hl1
  go_wp2_with (first
    | (refine wpList_load_blk rfl 104 _ rfl (w.heap.size + 1 + 1) rfl 104 _ _ HB8.out Tryd.underlying104 rfl (by rw [HLN.out]; exact HI.out) ?_)
    | (refine wpList_store_blk rfl 104 _ _ rfl (w.heap.size + 1) 104 _ HR9.out ((St.bytes ⟨sa, sb, sc, sd, se, sf, sg, sh⟩).map bv) rfl rfl (by rw [HLN.out]; rfl) (by rw [HLN.out]; exact HI.out) (bv_one _) ?_; intro w9 hb9 hs9))
  refine bodyPost_ret (v := arrV (St.bytes ⟨sa, sb, sc, sd, se, sf, sg, sh⟩)) ?_ rfl ⟨rfl, ?_⟩
  · exact results_blk (ty := 104) Tryd.results84 _ w9 (w.heap.size + 1) 104 ((St.bytes ⟨sa, sb, sc, sd, se, sf, sg, sh⟩).map bv) _ rfl hb9 Tryd.underlying104 rfl (by rw [HLN.out]; exact HI.out)
  · exact ((((Below.refl _ _).alloc (Nat.le_refl _) _).alloc (by simp) _).alloc (by simp; omega) _).trans ((HL1.out.mono (by omega)).trans (hs9.below.mono (by omega)))
end Go.Proofs.YtbodiioemohenaaDoor

/- The contract of sha's end: the words behind the last block. Conditions: a block of 64 bytes, filled to less than all; at most 1000000 bytes; words that fit uint32; the table of the rounds as it is laid. -/
namespace Go.Proofs.YtbodiioemohenaaDoor
open Go.RowKit

/-- The block with a byte 80 behind what fills it, and noughts. -/
def markC (cs : List UInt8) (f : Nat) : List UInt8 := cs.take f ++ [128] ++ List.replicate (63 - f) 0
theorem markC_length {cs : List UInt8} (h : cs.length = 64) {f : Nat} (hf : f < 64) : (markC cs f).length = 64 := by simp [markC]; omega
/-- The words behind the last block. -/
def endS (s : St) (cs : List UInt8) (f n : Nat) : St :=
  if 56 ≤ f then goOn (goOn s (markC cs f)) (endC (List.replicate 64 0) (n * 8) 8) else goOn s (endC (markC cs f) (n * 8) 8)
theorem mark_clear {cs : List UInt8} (h : cs.length = 64) {f : Nat} (hf : f < 64) : clearL ((cs.map bv).set f (.int .u8 128)) (f + 1) (64 - (f + 1)) (.int .u8 0) = (markC cs f).map bv := by
  unfold clearL markC
  rw [List.take_succ_eq_append_getElem (by simp; omega), List.take_set_of_le (Nat.le_refl f), List.drop_of_length_le (by simp; omega)]
  simp only [List.getElem_set_self, List.map_append, List.map_replicate, List.map_cons, List.map_nil, List.map_take, List.append_nil]
  rw [show 64 - (f + 1) = 63 - f by omega]
  rfl
theorem all_clear {cs : List Value} (h : cs.length = 64) : clearL cs 0 64 (.int .u8 0) = (List.replicate 64 (0 : UInt8)).map bv := by
  unfold clearL
  rw [List.drop_of_length_le (by omega)]
  simp [bv]
theorem goOn_ok (s : St) (bs : List UInt8) : (goOn s bs).ok := add_ok _ _
theorem list_len (s t : St) : (s.list.map wv).length = (t.list.map wv).length := rfl
theorem list_len8 (s : St) : (s.list.map wv).length = (List.replicate 8 (Value.int .u32 0)).length := rfl
/-- The three blocks of the call's own. -/
structure EndSt (w : World) (s : St) (cs : List UInt8) (W : World) : Prop where
  words : Blk W w.heap.size 127 (s.list.map wv)
  block : Blk W (w.heap.size + 1) 129 (cs.map bv)
  res : Blk W (w.heap.size + 2) 127 (List.replicate 8 (Value.int .u32 0))
  below : Below w.heap.size w W
theorem EndSt.on {w W W' : World} {s : St} {cs : List UInt8} (h : EndSt w s cs W) (hb : Below W.heap.size W W') : EndSt w s cs W' :=
  ⟨h.words.below hb h.words.lt, h.block.below hb h.block.lt, h.res.below hb h.res.lt, h.below.trans (hb.mono h.below.size)⟩
theorem EndSt.lay {w W W' : World} {s : St} {cs ds : List UInt8} (h : EndSt w s cs W) (hs : Sole W W' (w.heap.size + 1)) (hb : Blk W' (w.heap.size + 1) 129 (ds.map bv)) : EndSt w s ds W' :=
  ⟨hs.blk h.words (by omega), hb, hs.blk h.res (by omega), h.below.trans (hs.below.mono (by omega))⟩
theorem EndSt.put {w W W' : World} {s t : St} {cs : List UInt8} (h : EndSt w s cs W) (hs : Sole W W' w.heap.size) (hb : Blk W' w.heap.size 127 (t.list.map wv)) : EndSt w t cs W' :=
  ⟨hb, hs.blk h.block (by omega), hs.blk h.res (by omega), h.below.trans hs.below⟩
set_option maxRecDepth 100000 in
set_option maxHeartbeats 1000000 in
theorem end_any (s : St) (cs : List UInt8) (f n : Nat) (w : World) (hs : s.ok) (hl : cs.length = 64) (hf : f < 64) (hn : n ≤ 1000000) (hk : Salts w) :
    Calls Tryd.prog 83 #[stV s, arrV cs, .int .i64 (f : Int), .int .u64 (n : Int)] w fun e w' => e = .returned (stV (endS s cs f n)) ∧ Below w.heap.size w w' := by
  obtain ⟨i0, hi, hz0, hz1, hz2⟩ := info_parts info_u8
  have HNEQ : Hid (endS s cs f n = endS s cs f n) := rfl
  obtain ⟨res, hres⟩ : ∃ res, res = endS s cs f n := ⟨_, rfl⟩
  rw [← hres]
  have HRES := Lib.hid hres
  obtain ⟨sa, sb, sc, sd, se, sf, sg, sh⟩ := s
  have HOK := Lib.hid hs
  have HL := Lib.hid hl
  have HK := Lib.hid hk
  have HI8 : Hid ((Tryd.prog.info? 127).map (·.size) = some 8) := by show _ = _; kernel_rfl
  have HF : Hid (f < 64) := hf
  have fI : (f : Int) < 64 := by omega
  have nI : (n : Int) ≤ 1000000 := by omega
  have hzv : ∀ w : World, (zeroValue 5).run Tryd.prog w = .ok (.int .u8 0) w := fun w => by kernel_rfl
  have HZV := Lib.hid hzv
  have f0 := (Blk.made (w.alloc (.cells #[.int .u32 (sa : Int), .int .u32 (sb : Int), .int .u32 (sc : Int), .int .u32 (sd : Int), .int .u32 (se : Int), .int .u32 (sf : Int), .int .u32 (sg : Int), .int .u32 (sh : Int)] 127)) 129 (cs.map bv)).free f
  have c0 := (Blk.made (w.alloc (.cells #[.int .u32 (sa : Int), .int .u32 (sb : Int), .int .u32 (sc : Int), .int .u32 (sd : Int), .int .u32 (se : Int), .int .u32 (sf : Int), .int .u32 (sg : Int), .int .u32 (sh : Int)] 127)) 129 (cs.map bv)).cell f
  rw [List.getElem?_map, List.getElem?_eq_getElem (by omega)] at c0
  replace c0 : ∃ x, World.cell? _ _ = some x := ⟨_, c0⟩
  obtain ⟨xf, c0⟩ := c0
  simp only [World.size_alloc] at f0 c0
  obtain ⟨o1, m1, hm1, ho1, hsl⟩ := run_slice_arr_l' (P := Tryd.prog) 129 64 5 i0 Tryd.underlying129 hi hz1 (w.heap.size + 1) (f + 1) ((f : Int) + 1) (by omega) (by omega)
  have HM1 := Lib.hid hm1
  have HO1 := Lib.hid ho1
  clear hs hl hk hres hf hn hzv hm1 ho1
  unfold stV wordsV arrV
  change Calls _ _ #[.agg #[.int .u32 (sa : Int), .int .u32 (sb : Int), .int .u32 (sc : Int), .int .u32 (sd : Int), .int .u32 (se : Int), .int .u32 (sf : Int), .int .u32 (sg : Int), .int .u32 (sh : Int)], .agg (cs.map bv).toArray, .int .i64 (f : Int), .int .u64 (n : Int)] _ _
  go_enter Tryd.func83, Tryd.ntmps83
  go_wp2_with (refine wpList_clear_blk rfl _ _ rfl 5 (.int .u8 0) Tryd.underlying23 HZV.out rfl rfl (w.heap.size + 1) (f + 1) o1 m1 m1 129 ((cs.map bv).set f (.int .u8 128)) ?_ rfl HO1.out ?_ ?_)
  · exact (by have h := (Blk.made (w.alloc (.cells #[.int .u32 (sa : Int), .int .u32 (sb : Int), .int .u32 (sc : Int), .int .u32 (sd : Int), .int .u32 (se : Int), .int .u32 (sf : Int), .int .u32 (sg : Int), .int .u32 (sh : Int)] 127)) 129 ((cs.map bv).set f (.int .u8 128))).alloc (.cells #[.int .u32 0, .int .u32 0, .int .u32 0, .int .u32 0, .int .u32 0, .int .u32 0, .int .u32 0, .int .u32 0] 127); simp only [World.size_alloc] at h; exact h)
  · have := HM1.out; have := HL.out; have := HF.out; simp; omega
  intro w2 hb2 hs2
  rw [HM1.out, mark_clear HL.out HF.out] at hb2
  have ST2 : EndSt w ⟨sa, sb, sc, sd, se, sf, sg, sh⟩ (markC cs f) w2 := by
    have h0 := (((Blk.made w 127 [.int .u32 (sa : Int), .int .u32 (sb : Int), .int .u32 (sc : Int), .int .u32 (sd : Int), .int .u32 (se : Int), .int .u32 (sf : Int), .int .u32 (sg : Int), .int .u32 (sh : Int)]).alloc (.cells ((cs.map bv).set f (.int .u8 128)).toArray 129)).alloc (.cells #[.int .u32 0, .int .u32 0, .int .u32 0, .int .u32 0, .int .u32 0, .int .u32 0, .int .u32 0, .int .u32 0] 127))
    have h1 := Blk.made ((w.alloc (.cells #[.int .u32 (sa : Int), .int .u32 (sb : Int), .int .u32 (sc : Int), .int .u32 (sd : Int), .int .u32 (se : Int), .int .u32 (sf : Int), .int .u32 (sg : Int), .int .u32 (sh : Int)] 127)).alloc (.cells ((cs.map bv).set f (.int .u8 128)).toArray 129)) 127 [.int .u32 0, .int .u32 0, .int .u32 0, .int .u32 0, .int .u32 0, .int .u32 0, .int .u32 0, .int .u32 0]
    simp only [World.size_alloc] at h1
    have h2 := ((((Below.refl w.heap.size w).alloc (Nat.le_refl _) (.cells #[.int .u32 (sa : Int), .int .u32 (sb : Int), .int .u32 (sc : Int), .int .u32 (sd : Int), .int .u32 (se : Int), .int .u32 (sf : Int), .int .u32 (sg : Int), .int .u32 (sh : Int)] 127)).alloc (by simp) (.cells ((cs.map bv).set f (.int .u8 128)).toArray 129)).alloc (by simp; omega) (.cells #[.int .u32 0, .int .u32 0, .int .u32 0, .int .u32 0, .int .u32 0, .int .u32 0, .int .u32 0, .int .u32 0] 127))
    exact ⟨hs2.blk h0 (by omega), hb2, hs2.blk h1 (by omega), h2.trans (hs2.below.mono (by omega))⟩
  have ST := Lib.hid ST2
  have HK2 := Lib.hid (HK.out.below ST2.below)
  clear hb2 hs2 ST2 c0 f0 hsl HO1 HM1
  by_cases h56 : 56 ≤ f
  · have i56 : (56 : Int) ≤ f := by omega
    have HE : Hid (res = goOn (goOn ⟨sa, sb, sc, sd, se, sf, sg, sh⟩ (markC cs f)) (endC (List.replicate 64 0) (n * 8) 8)) := by show res = _; rw [HRES.out, endS, if_pos h56]
    go_wp2_with (refine wpList_load_blk rfl 127 _ rfl w.heap.size rfl 127 (St.list ⟨sa, sb, sc, sd, se, sf, sg, sh⟩ |>.map wv) _ ST.out.words Tryd.underlying127 rfl HI8.out ?_)
    refine (through_any ⟨sa, sb, sc, sd, se, sf, sg, sh⟩ (w.heap.size + 1) (markC cs f) _ HOK.out ST.out.block (markC_length HL.out HF.out) HK2.out).mono ?_
    rintro e w3 ⟨rfl, hb3⟩
    have ST3 := Lib.hid (ST.out.on hb3)
    go_wp2_with (first
      | (refine wpList_store_blk rfl 127 _ _ rfl w.heap.size 127 _ ST3.out.words (St.list (goOn ⟨sa, sb, sc, sd, se, sf, sg, sh⟩ (markC cs f)) |>.map wv) rfl rfl (list_len _ _) HI8.out (wv_one _) ?_; intro w4 hb4 hs4)
      | (refine wpList_clear_blk rfl _ _ rfl 5 (.int .u8 0) Tryd.underlying23 HZV.out rfl rfl (w.heap.size + 1) 0 0 64 64 129 ((markC cs f).map bv) ((ST3.out.put hs4 hb4).block) rfl (fun _ => rfl) (by rw [List.length_map, markC_length HL.out HF.out]; omega) ?_; intro w5 hb5 hs5))
    rw [all_clear (by rw [List.length_map, markC_length HL.out HF.out])] at hb5
    have ST5 := Lib.hid ((ST3.out.put hs4 hb4).lay hs5 hb5)
    clear hb4 hs4 hb5 hs5 ST3 hb3 ST
    have ST := ST5
    go_wp2_with (fail)
    refine fin_loop _ _ _ _ _ _ _ _ _ _ _ _ _ _ _ _ _ _ _ _ _ _ _ _ _ _ _ _ _ _ _ _ _ _ (List.replicate 64 0) (Lib.hid (by simp)) (n * 8) (by omega) _ (w.heap.size + 1) (Lib.hid ST.out.block) (Lib.hid ?_)
    intro u10 u24 u25 u26 u27 u28 u29 u30 u31 u32 u33 u34 w8 hb8 hl8
    have ST8 : Hid (EndSt w (goOn ⟨sa, sb, sc, sd, se, sf, sg, sh⟩ (markC cs f)) (endC (List.replicate 64 0) (n * 8) 8) w8) := Lib.hid (ST.out.lay hl8.out hb8.out)
    have HK8 := Lib.hid (HK.out.below ST8.out.below)
    go_wp2_with (refine wpList_load_blk rfl 127 _ rfl w.heap.size rfl 127 (St.list (goOn ⟨sa, sb, sc, sd, se, sf, sg, sh⟩ (markC cs f)) |>.map wv) _ ST8.out.words Tryd.underlying127 rfl HI8.out ?_)
    refine (through_any (goOn ⟨sa, sb, sc, sd, se, sf, sg, sh⟩ (markC cs f)) (w.heap.size + 1) (endC (List.replicate 64 0) (n * 8) 8) _ (goOn_ok _ _) ST8.out.block (endC_length (by simp) _ (by omega)) HK8.out).mono ?_
    rintro e w9 ⟨rfl, hb9⟩
    have ST9 := Lib.hid (ST8.out.on hb9)
    rw [← HE.out]
    go_wp2_with (refine wpList_store_blk rfl 127 _ _ rfl (w.heap.size + 1 + 1) 127 _ ST9.out.res (res.list.map wv) rfl rfl (list_len8 _) HI8.out (wv_one _) ?_; intro w10 hb10 hs10)
    refine bodyPost_ret ?_ rfl ⟨rfl, ST9.out.below.trans (hs10.below.mono (by omega))⟩
    exact results_blk (ty := 127) Tryd.results83 _ w10 (w.heap.size + 1 + 1) 127 (res.list.map wv) _ rfl hb10 Tryd.underlying127 rfl HI8.out
  · have i56 : (f : Int) < 56 := by omega
    have HE : Hid (res = goOn ⟨sa, sb, sc, sd, se, sf, sg, sh⟩ (endC (markC cs f) (n * 8) 8)) := by show res = _; rw [HRES.out, endS, if_neg h56]
    go_wp2_with (fail)
    refine fin_loop _ _ _ _ _ _ _ _ _ _ _ _ _ _ _ _ _ _ _ _ _ _ _ _ _ _ _ _ _ _ _ _ _ _ (markC cs f) (Lib.hid (markC_length HL.out HF.out)) (n * 8) (by omega) _ (w.heap.size + 1) (Lib.hid ST.out.block) (Lib.hid ?_)
    intro u10 u24 u25 u26 u27 u28 u29 u30 u31 u32 u33 u34 w8 hb8 hl8
    have ST8 : Hid (EndSt w (⟨sa, sb, sc, sd, se, sf, sg, sh⟩) (endC (markC cs f) (n * 8) 8) w8) := Lib.hid (ST.out.lay hl8.out hb8.out)
    have HK8 := Lib.hid (HK.out.below ST8.out.below)
    go_wp2_with (refine wpList_load_blk rfl 127 _ rfl w.heap.size rfl 127 (St.list (⟨sa, sb, sc, sd, se, sf, sg, sh⟩) |>.map wv) _ ST8.out.words Tryd.underlying127 rfl HI8.out ?_)
    refine (through_any (⟨sa, sb, sc, sd, se, sf, sg, sh⟩) (w.heap.size + 1) (endC (markC cs f) (n * 8) 8) _ (HOK.out) ST8.out.block (endC_length (markC_length HL.out HF.out) _ (by omega)) HK8.out).mono ?_
    rintro e w9 ⟨rfl, hb9⟩
    have ST9 := Lib.hid (ST8.out.on hb9)
    rw [← HE.out]
    go_wp2_with (refine wpList_store_blk rfl 127 _ _ rfl (w.heap.size + 1 + 1) 127 _ ST9.out.res (res.list.map wv) rfl rfl (list_len8 _) HI8.out (wv_one _) ?_; intro w10 hb10 hs10)
    refine bodyPost_ret ?_ rfl ⟨rfl, ST9.out.below.trans (hs10.below.mono (by omega))⟩
    exact results_blk (ty := 127) Tryd.results83 _ w10 (w.heap.size + 1 + 1) 127 (res.list.map wv) _ rfl hb10 Tryd.underlying127 rfl HI8.out
end Go.Proofs.YtbodiioemohenaaDoor

/- Plain arithmetic: the published fingerprint, block by block. No condition of its own. -/
namespace Go.Proofs.YtbodiioemohenaaDoor
open Go.RowKit

/-- The block of that number. -/
def blockAt (m : List UInt8) (q : Nat) : List UInt8 := (m.drop (64 * q)).take 64
theorem wordsAt_block (m : List UInt8) (p : Nat) : ∀ i, i ≤ 16 → wordsAt ((m.drop p).take 64) 0 i = wordsAt m p i
  | 0, _ => rfl
  | i + 1, h => by
    rw [wordsAt, wordsAt, wordsAt_block m p i (by omega)]
    congr 3
    rw [List.drop_take, List.drop_drop, List.take_take, Nat.zero_add]
    congr 1
    omega
theorem block_eq (s : St) (m : List UInt8) (q : Nat) : block s m (64 * q) = goOn s (blockAt m q) := by
  unfold block goOn spreadN blockAt
  rw [wordsAt_block m _ 16 (Nat.le_refl _)]
theorem blocks_succ (m : List UInt8) (q : Nat) : blocks m (q + 1) = goOn (blocks m q) (blockAt m q) := by rw [blocks, block_eq]
theorem blockAt_prefix (ys zs : List UInt8) (q : Nat) (h : 64 * q + 64 ≤ ys.length) : blockAt (ys ++ zs) q = blockAt ys q := by
  unfold blockAt
  rw [List.drop_append_of_le_length (by omega), List.take_append_of_le_length (by simp; omega)]
theorem blocks_prefix (ys zs : List UInt8) : ∀ q, 64 * q ≤ ys.length → blocks (ys ++ zs) q = blocks ys q
  | 0, _ => rfl
  | q + 1, h => by rw [blocks_succ, blocks_succ, blocks_prefix ys zs q (by omega), blockAt_prefix ys zs q (by omega)]
/-- What goes through the blocks: the words behind the whole ones, and a block whose beginning is the rest. -/
structure Flow (ys : List UInt8) (s : St) (cs : List UInt8) (f : Nat) : Prop where
  words : s = blocks ys (ys.length / 64)
  len : cs.length = 64
  fill : f = ys.length % 64
  rest : cs.take f = ys.drop (64 * (ys.length / 64))
theorem Flow.lt {ys : List UInt8} {s : St} {cs : List UInt8} {f : Nat} (h : Flow ys s cs f) : f < 64 := by rw [h.fill]; omega
theorem Flow.start : Flow [] St.first (List.replicate 64 0) 0 := ⟨rfl, by simp, rfl, rfl⟩
theorem Flow.more {ys : List UInt8} {s : St} {cs : List UInt8} {f : Nat} (h : Flow ys s cs f) (zs : List UInt8) (hz : f + zs.length < 64) : Flow (ys ++ zs) s (splice cs f zs) (f + zs.length) := by
  have hf := h.fill
  have e1 : (ys ++ zs).length / 64 = ys.length / 64 := by rw [List.length_append]; omega
  have hl := h.len
  refine ⟨?_, ?_, ?_, ?_⟩
  · rw [e1, blocks_prefix ys zs _ (by omega)]; exact h.words
  · rw [length_splice _ _ _ (by omega)]; exact hl
  · rw [List.length_append]; omega
  · rw [e1, List.drop_append_of_le_length (by omega), ← h.rest]
    unfold splice
    rw [← List.append_assoc, List.take_append_of_le_length (by simp; omega), List.take_of_length_le (by simp; omega)]
theorem Flow.full {ys : List UInt8} {s : St} {cs : List UInt8} {f : Nat} (h : Flow ys s cs f) (zs : List UInt8) (hz : f + zs.length = 64) : Flow (ys ++ zs) (goOn s (splice cs f zs)) (splice cs f zs) 0 := by
  have hf := h.fill
  have hl := h.len
  have e1 : (ys ++ zs).length / 64 = ys.length / 64 + 1 := by rw [List.length_append]; omega
  have e2 : splice cs f zs = cs.take f ++ zs := by
    unfold splice
    rw [List.drop_of_length_le (by omega), List.append_nil]
  have e3 : blockAt (ys ++ zs) (ys.length / 64) = splice cs f zs := by
    rw [e2, h.rest]
    unfold blockAt
    rw [List.drop_append_of_le_length (by omega), List.take_of_length_le (by simp; omega)]
  refine ⟨?_, ?_, ?_, ?_⟩
  · rw [e1, blocks_succ, blocks_prefix ys zs _ (by omega), e3, h.words]
  · rw [length_splice _ _ _ (by omega)]; exact hl
  · rw [List.length_append]; omega
  · rw [e1, List.drop_of_length_le (by rw [List.length_append]; omega)]; rfl
theorem take_mark {a : List UInt8} {f : Nat} (ha : a.length = f) (hf : f < 56) : (a ++ [128] ++ List.replicate (63 - f) (0 : UInt8)).take 56 = a ++ [128] ++ List.replicate (55 - f) 0 := by
  rw [List.take_append, List.take_of_length_le (by simp; omega), List.take_replicate]
  congr 2
  simp
  omega
theorem Flow.finish {ys : List UInt8} {s : St} {cs : List UInt8} {f : Nat} (h : Flow ys s cs f) : (endS s cs f ys.length).bytes = shaB ys := by
  have hf := h.fill
  have hl := h.len
  have hlt := h.lt
  obtain ⟨q, hq⟩ : ∃ q, q = ys.length / 64 := ⟨_, rfl⟩
  have hw : s = blocks ys q := by rw [hq]; exact h.words
  have hr : cs.take f = ys.drop (64 * q) := by rw [hq]; exact h.rest
  have hrl : (ys.drop (64 * q)).length = f := by rw [List.length_drop]; omega
  have hpl := padB_length ys
  have hp : padB ys = ys ++ ([128] ++ List.replicate (padN ys.length) 0 ++ beB 8 (ys.length * 8)) := by simp [padB]
  unfold shaB
  congr 1
  by_cases h56 : 56 ≤ f
  · have hpn : padN ys.length = 119 - f := by unfold padN; omega
    rw [endS, if_pos h56]
    have e1 : (padB ys).length / 64 = q + 1 + 1 := by rw [hpl, hpn]; omega
    have e2 : blockAt (padB ys) q = markC cs f := by
      unfold blockAt markC
      rw [hp, List.drop_append_of_le_length (by omega), hr, List.take_append, hrl, List.take_of_length_le (by omega), List.append_assoc, List.append_assoc]
      congr 1
      rw [show 64 - f = (63 - f) + 1 by omega, List.singleton_append, List.take_succ_cons, List.take_append, List.take_replicate, List.length_replicate, hpn, show 63 - f - (119 - f) = 0 by omega, show min (63 - f) (119 - f) = 63 - f by omega]
      simp
    have e3 : blockAt (padB ys) (q + 1) = endC (List.replicate 64 0) (ys.length * 8) 8 := by
      unfold blockAt endC
      have e4 : padB ys = (ys ++ [128] ++ List.replicate (63 - f) 0) ++ (List.replicate 56 0 ++ beB 8 (ys.length * 8)) := by
        rw [padB, hpn, show 119 - f = (63 - f) + 56 by omega, ← List.replicate_append_replicate]
        simp
      have e5 : (ys ++ [128] ++ List.replicate (63 - f) (0 : UInt8)).length = 64 * (q + 1) := by simp; omega
      rw [e4, ← e5, List.drop_left, List.take_of_length_le (by simp [beB_length]), List.take_replicate]
      rfl
    rw [e1, blocks_succ, blocks_succ, e2, e3, hp, blocks_prefix _ _ q (by omega), ← hw]
  · have hpn : padN ys.length = 55 - f := by unfold padN; omega
    rw [endS, if_neg h56]
    have e1 : (padB ys).length / 64 = q + 1 := by rw [hpl, hpn]; omega
    have e2 : blockAt (padB ys) q = endC (markC cs f) (ys.length * 8) 8 := by
      unfold blockAt endC markC
      rw [hp, List.drop_append_of_le_length (by omega), hr, take_mark hrl (by omega), hpn, List.take_of_length_le (by simp [beB_length]; omega)]
      simp
    rw [e1, blocks_succ, e2, hp, blocks_prefix _ _ q (by omega), ← hw]
end Go.Proofs.YtbodiioemohenaaDoor

/- sha.Of: the loop that takes one part. Conditions: at most 1000000 bytes in all; the table of the rounds as it is laid. -/
namespace Go.Proofs.YtbodiioemohenaaDoor
open Go.RowKit

/-- The state of the fingerprint that is being made: its words in a block, its bytes in the next one. -/
structure Taken (w0 : World) (S : Nat) (ys : List UInt8) (s : St) (cs : List UInt8) (f : Nat) (W : World) : Prop where
  flow : Flow ys s cs f
  ok : s.ok
  words : Blk W S 127 (s.list.map wv)
  block : Blk W (S + 1) 129 (cs.map bv)
  below : Below S w0 W
def TakeRel (w0 : World) (S : Nat) (all : List UInt8) (f p : Value) (W : World) : Prop :=
  ∃ (ys zs : List UInt8) (s : St) (cs : List UInt8) (n : Nat) (A : Option Addr) (c : Nat), all = ys ++ zs ∧ f = .int .i64 (n : Int) ∧ p = .slice A zs.length c ∧ Rd w0 p zs ∧ Taken w0 S ys s cs n W
def left_ : Value → Nat
  | .slice _ n _ => n
  | _ => 0
noncomputable def body_take : Code := (((Tryd.f62.body.map loopsOf).getD [])[1]?).getD .skip
set_option maxRecDepth 100000 in
set_option maxHeartbeats 1000000 in
theorem take_loop (c0 c1 c2 c6 c7 c9 c10 c11 c12 c13 c14 c15 c16 c17 c18 c19 c20 c21 c22 c23 c24 c25 c26 c27 c28 c29 c30 c31 c32 c33 c34 c35 c36 c37 c38 c39 c40 c41 c42 : Value) (w0 w : World) (S : Nat) (hS : Hid (S = w0.heap.size)) (hk : Hid (Salts w0)) (all : List UInt8) (v5 v8 : Value) (h0 : Hid (TakeRel w0 S all v5 v8 w)) {Q : Exit → Act → World → Prop}
    (HQ : Hid (∀ (u8 u9 u22 u23 u24 u25 u26 u27 u28 u29 u30 u31 u32 u33 u34 u35 : Value) (s : St) (cs : List UInt8) (n : Nat) (wx : World), Hid (Taken w0 S all s cs n wx) → Q (.exit 1) ⟨List.toArray (c0 :: c1 :: c2 :: (.pointer (some ⟨S, 0, none⟩)) :: (.pointer (some ⟨S + 1, 0, none⟩)) :: (.int .i64 (n : Int)) :: c6 :: c7 :: u8 :: u9 :: c10 :: c11 :: c12 :: c13 :: c14 :: c15 :: c16 :: c17 :: c18 :: c19 :: c20 :: c21 :: u22 :: u23 :: u24 :: u25 :: u26 :: u27 :: u28 :: u29 :: u30 :: u31 :: u32 :: u33 :: u34 :: u35 :: c36 :: c37 :: c38 :: c39 :: c40 :: c41 :: c42 :: []), []⟩ wx)) :
    (Code.loop body_take).wp Tryd.prog Q ⟨List.toArray (c0 :: c1 :: c2 :: (.pointer (some ⟨S, 0, none⟩)) :: (.pointer (some ⟨S + 1, 0, none⟩)) :: v5 :: c6 :: c7 :: v8 :: c9 :: c10 :: c11 :: c12 :: c13 :: c14 :: c15 :: c16 :: c17 :: c18 :: c19 :: c20 :: c21 :: c22 :: c23 :: c24 :: c25 :: c26 :: c27 :: c28 :: c29 :: c30 :: c31 :: c32 :: c33 :: c34 :: c35 :: c36 :: c37 :: c38 :: c39 :: c40 :: c41 :: c42 :: []), []⟩ w := by
  obtain ⟨i0, hi, hz0, hz1, hz2⟩ := info_parts info_u8
  unfold body_take
  conv => arg 2; arg 1; whnf
  go_loopw [5, 8] (fun f p wx => TakeRel w0 S all f p wx) (fun _ p _ => left_ p)
  case atStart => exact h0.out
  case round =>
    obtain ⟨ys, zs, s, cs, f, A, c, hall, rfl, rfl, hrd, ht⟩ := hrel
    have hf := ht.flow.lt
    have fI : (f : Int) < 64 := by omega
    have HALL := Lib.hid hall
    have HRD := Lib.hid hrd
    have HT := Lib.hid ht
    obtain ⟨o1, m1, hm1, ho1, hsl⟩ := run_slice_arr_l' (P := Tryd.prog) 129 64 5 i0 Tryd.underlying129 hi hz1 (S + 1) f (f : Int) rfl (by omega)
    obtain ⟨n, hn⟩ : ∃ n, n = min zs.length (64 - f) := ⟨_, rfl⟩
    obtain ⟨A2, c2, hsl2, hrd2⟩ := hrd.low (P := Tryd.prog) 23 5 i0 Tryd.underlying23 hi hz1 n (by omega)
    have HM1 := Lib.hid hm1
    have HO1 := Lib.hid ho1
    have HSL := Lib.hid hsl2
    have HN := Lib.hid hn
    have nI : (n : Int) ≤ 64 := by omega
    clear hall hrd ht hm1 ho1 hsl2 hn
    have HZ : Hid ((Tryd.prog.info? 5).map (·.size) = some 1) := by show _ = _; kernel_rfl
    have HLZ : Hid (((zs.take n).map bv).length = n) := by show ((zs.take n).map bv).length = n; rw [List.length_map, List.length_take]; have := HN.out; omega
    go_wp2_with (refine wpList_copy_splice rfl _ _ _ _ rfl 5 Tryd.underlying23 HZ.out (some ⟨S + 1, o1, none⟩) A m1 m1 zs.length c rfl rfl (S + 1) f (cs.map bv) 129 HT.out.block ((zs.take n).map bv) ?_ ?_ ?_ (bv_one _) (S + 1) wr (Below.refl _ _) (Nat.le_refl _) ?_)
    · rw [HLZ.out, HM1.out, HN.out]
    · intro h0
      rw [HLZ.out] at h0
      refine ⟨by rw [HO1.out (by have := HM1.out; have := HN.out; omega)], ?_⟩
      obtain ⟨ad, hA, hab, hsrc⟩ := HRD.out.src (by have := HN.out; omega)
      refine ⟨ad, hA, fun j v hv => ?_⟩
      rw [List.getElem?_map, Option.map_eq_some_iff] at hv
      obtain ⟨u, hu, rfl⟩ := hv
      have hj : j < (zs.take n).length := by
        rcases Nat.lt_or_ge j (zs.take n).length with h | h
        · exact h
        · rw [List.getElem?_eq_none h] at hu; cases hu
      rw [List.length_take] at hj
      rw [List.getElem?_take, if_pos (by omega)] at hu
      rw [HT.out.below.cell (p := ad.add j) (by rw [hS.out]; exact hab j)]
      exact hsrc j u hu
    · rw [HLZ.out, List.length_map, HT.out.flow.len]; have := HN.out; omega
    intro w1 hb1 hl1
    rw [show min n zs.length = n by have := HN.out; omega]
    have hb1' : Blk w1 (S + 1) 129 ((splice cs f (zs.take n)).map bv) := by rw [← map_splice]; have h := hb1.out; rw [← List.map_take] at h; exact h
    have HB1 := Lib.hid hb1'
    have HW1 := Lib.hid (HT.out.words.below hl1 (Nat.lt_succ_self _))
    have HL1 : Hid (Below S w0 w1) := Lib.hid (HT.out.below.trans (hl1.mono (Nat.le_succ _)))
    have HK1 := Lib.hid (hk.out.under HL1.out (by rw [hS.out]; exact hk.out.1))
    have HX := HSL.out
    have HRD2 := Lib.hid hrd2
    clear hb1' hb1 hl1 hsl hrd2
    have f0 : (0 : Int) ≤ (f : Int) + (n : Int) := by omega
    by_cases hc : zs.length < 64 - f
    · obtain rfl : n = zs.length := by have := HN.out; omega
      have hlt : (f : Int) + (zs.length : Int) < 64 := by omega
      have hlt2 : f + zs.length < 64 := by omega
      go_wp2_with (fail)
      go_quiet (fail)
      go_wp2_with (fail)
      rw [show (f : Int) + (zs.length : Int) = ((f + zs.length : Nat) : Int) by omega]
      refine HQ.out _ _ _ _ _ _ _ _ _ _ _ _ _ _ _ _ s (splice cs f (zs.take zs.length)) (f + zs.length) _ (Lib.hid ⟨?_, HT.out.ok, HW1.out.drewN _, HB1.out.drewN _, below_drewN HL1.out _⟩)
      rw [HALL.out, List.take_length]
      exact HT.out.flow.more zs hlt2
    · have hn2 : Hid (n = 64 - f) := by show n = 64 - f; have := HN.out; omega
      have hn3 : Hid (f + (zs.take n).length = 64) := by show f + (zs.take n).length = 64; rw [List.length_take]; have := HN.out; omega
      have hzl : Hid ((zs.drop n).length = zs.length - n) := List.length_drop
      have hlt : Hid ((f : Int) + (n : Int) = 64) := by show (f : Int) + (n : Int) = 64; have := hn2.out; omega
      have hge : (64 : Int) ≤ (f : Int) + (n : Int) := by have := hlt.out; omega
      have HI8 : Hid ((Tryd.prog.info? 127).map (·.size) = some 8) := by show _ = _; kernel_rfl
      go_wp2_with (fail)
      go_quiet (fail)
      go_wp2_with (refine wpList_load_blk rfl 127 _ rfl S rfl 127 (s.list.map wv) _ HW1.out Tryd.underlying127 rfl HI8.out ?_)
      have FL := HT.out.flow.full (zs.take n) hn3.out
      refine (through_any s (S + 1) (splice cs f (zs.take n)) _ HT.out.ok (HB1.out.drewN _) FL.len (HK1.out.drewN _)).mono ?_
      rintro e w2 ⟨rfl, hb2⟩
      have HFL := Lib.hid FL
      have HW2 := Lib.hid ((HW1.out.drewN nq).below hb2 HW1.out.lt)
      have HB2 := Lib.hid ((HB1.out.drewN nq).below hb2 HB1.out.lt)
      have HL2 : Hid (Below S w0 w2) := Lib.hid ((below_drewN HL1.out nq).trans (hb2.mono (Nat.le_of_lt HW1.out.lt)))
      clear FL hb2
      go_wp2_with (refine wpList_store_blk rfl 127 _ _ rfl S 127 _ HW2.out (St.list (goOn s (splice cs f (zs.take n))) |>.map wv) rfl rfl (list_len _ _) HI8.out (wv_one _) ?_; intro w3 hb3 hs3)
      go_roundw
      case rel =>
        refine ⟨ys ++ zs.take n, zs.drop n, _, _, 0, A2, c2, ?_, rfl, ?_, ?_, HFL.out, goOn_ok _ _, hb3, hs3.blk HB2.out (by omega), HL2.out.trans hs3.below⟩
        · rw [HALL.out, List.append_assoc, List.take_append_drop]
        · rw [hzl.out]
        · exact HRD2.out
      case measure =>
        simp only [left_]
        have := hn2.out
        omega
end Go.Proofs.YtbodiioemohenaaDoor
