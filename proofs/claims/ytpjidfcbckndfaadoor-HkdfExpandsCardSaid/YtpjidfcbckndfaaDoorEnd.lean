/- The contract of sha's end: the words behind the last block. Conditions: a block of 64 bytes, filled to less than all; at most 1000000 bytes; words that fit uint32; the table of the rounds as it is laid. -/
import Derived.Test.YtpjidfcbckndfaaDoorEndA
import Derived.Test.YtpjidfcbckndfaaDoorSumOut
namespace Go.Proofs.YtpjidfcbckndfaaDoor
open Go.RowKit

/-- The block with a byte 80 behind what fills it, and noughts. -/
def markC (cs : List UInt8) (f : Nat) : List UInt8 := cs.take f ++ [128] ++ List.replicate (63 - f) 0
theorem markC_length {cs : List UInt8} (h : cs.length = 64) {f : Nat} (hf : f < 64) : (markC cs f).length = 64 := by simp [markC]; omega
/-- The words behind the last block. -/
def endS (s : St) (cs : List UInt8) (f n : Nat) : St :=
  if 56 ≤ f then goOn (goOn s (markC cs f)) (endC (List.replicate 64 0) (n * 8) 8) else goOn s (endC (markC cs f) (n * 8) 8)
theorem mark_clear {cs : List UInt8} (h : cs.length = 64) {f : Nat} (hf : f < 64) : clearL ((cs.map bv).set f (.int .u8 128)) (f + 1) (64 - (f + 1)) (.int .u8 0) = (markC cs f).map bv := by
  unfold clearL markC
  rw [List.take_succ_eq_append_getElem (by simp; omega), List.take_set_of_le (Nat.le_refl f), List.drop_of_length_le (by simp; omega)]
  simp only [List.getElem_set_self, List.map_append, List.map_replicate, List.map_cons, List.map_nil, List.map_take, List.append_nil]
  rw [show 64 - (f + 1) = 63 - f by omega]
  rfl
theorem all_clear {cs : List Value} (h : cs.length = 64) : clearL cs 0 64 (.int .u8 0) = (List.replicate 64 (0 : UInt8)).map bv := by
  unfold clearL
  rw [List.drop_of_length_le (by omega)]
  simp [bv]
theorem goOn_ok (s : St) (bs : List UInt8) : (goOn s bs).ok := add_ok _ _
theorem list_len (s t : St) : (s.list.map wv).length = (t.list.map wv).length := rfl
theorem list_len8 (s : St) : (s.list.map wv).length = (List.replicate 8 (Value.int .u32 0)).length := rfl
/-- The three blocks of the call's own. -/
structure EndSt (w : World) (s : St) (cs : List UInt8) (W : World) : Prop where
  words : Blk W w.heap.size 57 (s.list.map wv)
  block : Blk W (w.heap.size + 1) 40 (cs.map bv)
  res : Blk W (w.heap.size + 2) 57 (List.replicate 8 (Value.int .u32 0))
  below : Below w.heap.size w W
theorem EndSt.on {w W W' : World} {s : St} {cs : List UInt8} (h : EndSt w s cs W) (hb : Below W.heap.size W W') : EndSt w s cs W' :=
  ⟨h.words.below hb h.words.lt, h.block.below hb h.block.lt, h.res.below hb h.res.lt, h.below.trans (hb.mono h.below.size)⟩
theorem EndSt.lay {w W W' : World} {s : St} {cs ds : List UInt8} (h : EndSt w s cs W) (hs : Sole W W' (w.heap.size + 1)) (hb : Blk W' (w.heap.size + 1) 40 (ds.map bv)) : EndSt w s ds W' :=
  ⟨hs.blk h.words (by omega), hb, hs.blk h.res (by omega), h.below.trans (hs.below.mono (by omega))⟩
theorem EndSt.put {w W W' : World} {s t : St} {cs : List UInt8} (h : EndSt w s cs W) (hs : Sole W W' w.heap.size) (hb : Blk W' w.heap.size 57 (t.list.map wv)) : EndSt w t cs W' :=
  ⟨hb, hs.blk h.block (by omega), hs.blk h.res (by omega), h.below.trans hs.below⟩
set_option maxRecDepth 100000 in
set_option maxHeartbeats 1000000 in
theorem end_any (s : St) (cs : List UInt8) (f n : Nat) (w : World) (hs : s.ok) (hl : cs.length = 64) (hf : f < 64) (hn : n ≤ 1000000) (hk : Salts w) :
    Calls Tryd.prog 32 #[stV s, arrV cs, .int .i64 (f : Int), .int .u64 (n : Int)] w fun e w' => e = .returned (stV (endS s cs f n)) ∧ Below w.heap.size w w' := by
  obtain ⟨i0, hi, hz0, hz1, hz2⟩ := info_parts info_u8
  have HNEQ : Hid (endS s cs f n = endS s cs f n) := rfl
  obtain ⟨res, hres⟩ : ∃ res, res = endS s cs f n := ⟨_, rfl⟩
  rw [← hres]
  have HRES := Lib.hid hres
  obtain ⟨sa, sb, sc, sd, se, sf, sg, sh⟩ := s
  have HOK := Lib.hid hs
  have HL := Lib.hid hl
  have HK := Lib.hid hk
  have HI8 : Hid ((Tryd.prog.info? 57).map (·.size) = some 8) := by show _ = _; kernel_rfl
  have HF : Hid (f < 64) := hf
  have fI : (f : Int) < 64 := by omega
  have nI : (n : Int) ≤ 1000000 := by omega
  have hzv : ∀ w : World, (zeroValue 5).run Tryd.prog w = .ok (.int .u8 0) w := fun w => by kernel_rfl
  have HZV := Lib.hid hzv
  have f0 := (Blk.made (w.alloc (.cells #[.int .u32 (sa : Int), .int .u32 (sb : Int), .int .u32 (sc : Int), .int .u32 (sd : Int), .int .u32 (se : Int), .int .u32 (sf : Int), .int .u32 (sg : Int), .int .u32 (sh : Int)] 57)) 40 (cs.map bv)).free f
  have c0 := (Blk.made (w.alloc (.cells #[.int .u32 (sa : Int), .int .u32 (sb : Int), .int .u32 (sc : Int), .int .u32 (sd : Int), .int .u32 (se : Int), .int .u32 (sf : Int), .int .u32 (sg : Int), .int .u32 (sh : Int)] 57)) 40 (cs.map bv)).cell f
  rw [List.getElem?_map, List.getElem?_eq_getElem (by omega)] at c0
  replace c0 : ∃ x, World.cell? _ _ = some x := ⟨_, c0⟩
  obtain ⟨xf, c0⟩ := c0
  simp only [World.size_alloc] at f0 c0
  obtain ⟨o1, m1, hm1, ho1, hsl⟩ := run_slice_arr_l' (P := Tryd.prog) 40 64 5 i0 Tryd.underlying40 hi hz1 (w.heap.size + 1) (f + 1) ((f : Int) + 1) (by omega) (by omega)
  have HM1 := Lib.hid hm1
  have HO1 := Lib.hid ho1
  clear hs hl hk hres hf hn hzv hm1 ho1
  unfold stV wordsV arrV
  change Calls _ _ #[.agg #[.int .u32 (sa : Int), .int .u32 (sb : Int), .int .u32 (sc : Int), .int .u32 (sd : Int), .int .u32 (se : Int), .int .u32 (sf : Int), .int .u32 (sg : Int), .int .u32 (sh : Int)], .agg (cs.map bv).toArray, .int .i64 (f : Int), .int .u64 (n : Int)] _ _
  go_enter Tryd.func32, Tryd.ntmps32
  go_wp2_with (refine wpList_clear_blk rfl _ _ rfl 5 (.int .u8 0) Tryd.underlying22 HZV.out rfl rfl (w.heap.size + 1) (f + 1) o1 m1 m1 40 ((cs.map bv).set f (.int .u8 128)) ?_ rfl HO1.out ?_ ?_)
  · exact (by have h := (Blk.made (w.alloc (.cells #[.int .u32 (sa : Int), .int .u32 (sb : Int), .int .u32 (sc : Int), .int .u32 (sd : Int), .int .u32 (se : Int), .int .u32 (sf : Int), .int .u32 (sg : Int), .int .u32 (sh : Int)] 57)) 40 ((cs.map bv).set f (.int .u8 128))).alloc (.cells #[.int .u32 0, .int .u32 0, .int .u32 0, .int .u32 0, .int .u32 0, .int .u32 0, .int .u32 0, .int .u32 0] 57); simp only [World.size_alloc] at h; exact h)
  · have := HM1.out; have := HL.out; have := HF.out; simp; omega
  intro w2 hb2 hs2
  rw [HM1.out, mark_clear HL.out HF.out] at hb2
  have ST2 : EndSt w ⟨sa, sb, sc, sd, se, sf, sg, sh⟩ (markC cs f) w2 := by
    have h0 := (((Blk.made w 57 [.int .u32 (sa : Int), .int .u32 (sb : Int), .int .u32 (sc : Int), .int .u32 (sd : Int), .int .u32 (se : Int), .int .u32 (sf : Int), .int .u32 (sg : Int), .int .u32 (sh : Int)]).alloc (.cells ((cs.map bv).set f (.int .u8 128)).toArray 40)).alloc (.cells #[.int .u32 0, .int .u32 0, .int .u32 0, .int .u32 0, .int .u32 0, .int .u32 0, .int .u32 0, .int .u32 0] 57))
    have h1 := Blk.made ((w.alloc (.cells #[.int .u32 (sa : Int), .int .u32 (sb : Int), .int .u32 (sc : Int), .int .u32 (sd : Int), .int .u32 (se : Int), .int .u32 (sf : Int), .int .u32 (sg : Int), .int .u32 (sh : Int)] 57)).alloc (.cells ((cs.map bv).set f (.int .u8 128)).toArray 40)) 57 [.int .u32 0, .int .u32 0, .int .u32 0, .int .u32 0, .int .u32 0, .int .u32 0, .int .u32 0, .int .u32 0]
    simp only [World.size_alloc] at h1
    have h2 := ((((Below.refl w.heap.size w).alloc (Nat.le_refl _) (.cells #[.int .u32 (sa : Int), .int .u32 (sb : Int), .int .u32 (sc : Int), .int .u32 (sd : Int), .int .u32 (se : Int), .int .u32 (sf : Int), .int .u32 (sg : Int), .int .u32 (sh : Int)] 57)).alloc (by simp) (.cells ((cs.map bv).set f (.int .u8 128)).toArray 40)).alloc (by simp; omega) (.cells #[.int .u32 0, .int .u32 0, .int .u32 0, .int .u32 0, .int .u32 0, .int .u32 0, .int .u32 0, .int .u32 0] 57))
    exact ⟨hs2.blk h0 (by omega), hb2, hs2.blk h1 (by omega), h2.trans (hs2.below.mono (by omega))⟩
  have ST := Lib.hid ST2
  have HK2 := Lib.hid (HK.out.below ST2.below)
  clear hb2 hs2 ST2 c0 f0 hsl HO1 HM1
  by_cases h56 : 56 ≤ f
  · have i56 : (56 : Int) ≤ f := by omega
    have HE : Hid (res = goOn (goOn ⟨sa, sb, sc, sd, se, sf, sg, sh⟩ (markC cs f)) (endC (List.replicate 64 0) (n * 8) 8)) := by show res = _; rw [HRES.out, endS, if_pos h56]
    go_wp2_with (refine wpList_load_blk rfl 57 _ rfl w.heap.size rfl 57 (St.list ⟨sa, sb, sc, sd, se, sf, sg, sh⟩ |>.map wv) _ ST.out.words Tryd.underlying57 rfl HI8.out ?_)
    refine (through_any ⟨sa, sb, sc, sd, se, sf, sg, sh⟩ (w.heap.size + 1) (markC cs f) _ HOK.out ST.out.block (markC_length HL.out HF.out) HK2.out).mono ?_
    rintro e w3 ⟨rfl, hb3⟩
    have ST3 := Lib.hid (ST.out.on hb3)
    go_wp2_with (first
      | (refine wpList_store_blk rfl 57 _ _ rfl w.heap.size 57 _ ST3.out.words (St.list (goOn ⟨sa, sb, sc, sd, se, sf, sg, sh⟩ (markC cs f)) |>.map wv) rfl rfl (list_len _ _) HI8.out (wv_one _) ?_; intro w4 hb4 hs4)
      | (refine wpList_clear_blk rfl _ _ rfl 5 (.int .u8 0) Tryd.underlying22 HZV.out rfl rfl (w.heap.size + 1) 0 0 64 64 40 ((markC cs f).map bv) ((ST3.out.put hs4 hb4).block) rfl (fun _ => rfl) (by rw [List.length_map, markC_length HL.out HF.out]; omega) ?_; intro w5 hb5 hs5))
    rw [all_clear (by rw [List.length_map, markC_length HL.out HF.out])] at hb5
    have ST5 := Lib.hid ((ST3.out.put hs4 hb4).lay hs5 hb5)
    clear hb4 hs4 hb5 hs5 ST3 hb3 ST
    have ST := ST5
    go_wp2_with (fail)
    refine fin_loop _ _ _ _ _ _ _ _ _ _ _ _ _ _ _ _ _ _ _ _ _ _ _ _ _ _ _ _ _ _ _ _ _ _ (List.replicate 64 0) (Lib.hid (by simp)) (n * 8) (by omega) _ (w.heap.size + 1) (Lib.hid ST.out.block) (Lib.hid ?_)
    intro u10 u24 u25 u26 u27 u28 u29 u30 u31 u32 u33 u34 w8 hb8 hl8
    have ST8 : Hid (EndSt w (goOn ⟨sa, sb, sc, sd, se, sf, sg, sh⟩ (markC cs f)) (endC (List.replicate 64 0) (n * 8) 8) w8) := Lib.hid (ST.out.lay hl8.out hb8.out)
    have HK8 := Lib.hid (HK.out.below ST8.out.below)
    go_wp2_with (refine wpList_load_blk rfl 57 _ rfl w.heap.size rfl 57 (St.list (goOn ⟨sa, sb, sc, sd, se, sf, sg, sh⟩ (markC cs f)) |>.map wv) _ ST8.out.words Tryd.underlying57 rfl HI8.out ?_)
    refine (through_any (goOn ⟨sa, sb, sc, sd, se, sf, sg, sh⟩ (markC cs f)) (w.heap.size + 1) (endC (List.replicate 64 0) (n * 8) 8) _ (goOn_ok _ _) ST8.out.block (endC_length (by simp) _ (by omega)) HK8.out).mono ?_
    rintro e w9 ⟨rfl, hb9⟩
    have ST9 := Lib.hid (ST8.out.on hb9)
    rw [← HE.out]
    go_wp2_with (refine wpList_store_blk rfl 57 _ _ rfl (w.heap.size + 1 + 1) 57 _ ST9.out.res (res.list.map wv) rfl rfl (list_len8 _) HI8.out (wv_one _) ?_; intro w10 hb10 hs10)
    refine bodyPost_ret ?_ rfl ⟨rfl, ST9.out.below.trans (hs10.below.mono (by omega))⟩
    exact results_blk (ty := 57) Tryd.results32 _ w10 (w.heap.size + 1 + 1) 57 (res.list.map wv) _ rfl hb10 Tryd.underlying57 rfl HI8.out
  · have i56 : (f : Int) < 56 := by omega
    have HE : Hid (res = goOn ⟨sa, sb, sc, sd, se, sf, sg, sh⟩ (endC (markC cs f) (n * 8) 8)) := by show res = _; rw [HRES.out, endS, if_neg h56]
    go_wp2_with (fail)
    refine fin_loop _ _ _ _ _ _ _ _ _ _ _ _ _ _ _ _ _ _ _ _ _ _ _ _ _ _ _ _ _ _ _ _ _ _ (markC cs f) (Lib.hid (markC_length HL.out HF.out)) (n * 8) (by omega) _ (w.heap.size + 1) (Lib.hid ST.out.block) (Lib.hid ?_)
    intro u10 u24 u25 u26 u27 u28 u29 u30 u31 u32 u33 u34 w8 hb8 hl8
    have ST8 : Hid (EndSt w (⟨sa, sb, sc, sd, se, sf, sg, sh⟩) (endC (markC cs f) (n * 8) 8) w8) := Lib.hid (ST.out.lay hl8.out hb8.out)
    have HK8 := Lib.hid (HK.out.below ST8.out.below)
    go_wp2_with (refine wpList_load_blk rfl 57 _ rfl w.heap.size rfl 57 (St.list (⟨sa, sb, sc, sd, se, sf, sg, sh⟩) |>.map wv) _ ST8.out.words Tryd.underlying57 rfl HI8.out ?_)
    refine (through_any (⟨sa, sb, sc, sd, se, sf, sg, sh⟩) (w.heap.size + 1) (endC (markC cs f) (n * 8) 8) _ (HOK.out) ST8.out.block (endC_length (markC_length HL.out HF.out) _ (by omega)) HK8.out).mono ?_
    rintro e w9 ⟨rfl, hb9⟩
    have ST9 := Lib.hid (ST8.out.on hb9)
    rw [← HE.out]
    go_wp2_with (refine wpList_store_blk rfl 57 _ _ rfl (w.heap.size + 1 + 1) 57 _ ST9.out.res (res.list.map wv) rfl rfl (list_len8 _) HI8.out (wv_one _) ?_; intro w10 hb10 hs10)
    refine bodyPost_ret ?_ rfl ⟨rfl, ST9.out.below.trans (hs10.below.mono (by omega))⟩
    exact results_blk (ty := 57) Tryd.results32 _ w10 (w.heap.size + 1 + 1) 57 (res.list.map wv) _ rfl hb10 Tryd.underlying57 rfl HI8.out
end Go.Proofs.YtpjidfcbckndfaaDoor
