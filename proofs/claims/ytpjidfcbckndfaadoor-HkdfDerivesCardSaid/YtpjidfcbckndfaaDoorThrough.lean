/- The contract of sha's through: the words behind one more block. Conditions: a block of 64 bytes; words that fit uint32; the table of the rounds as it is laid. -/
import Derived.Test.YtpjidfcbckndfaaDoorThroughA
namespace Go.Proofs.YtpjidfcbckndfaaDoor
open Go.RowKit

/-- The words behind one more block. -/
def goOn (s : St) (bs : List UInt8) : St := s.add (rnds s (spreadN bs) 64)
def stV (s : St) : Value := wordsV s.list
set_option maxRecDepth 100000 in
set_option maxHeartbeats 400000 in
theorem through_any (s : St) (b : Nat) (bs : List UInt8) (w : World) (hs : s.ok) (hb : Blk w b 40 (bs.map bv)) (hl : bs.length = 64) (hk : Salts w) :
    Calls Tryd.prog 31 #[stV s, .pointer (some ⟨b, 0, none⟩)] w fun e w' => e = .returned (stV (goOn s bs)) ∧ Below w.heap.size w w' := by
  obtain ⟨sa, sb, sc, sd, se, sf, sg, sh⟩ := s
  have HOK := Lib.hid hs
  have HB := Lib.hid hb
  have HL := Lib.hid hl
  have HK := Lib.hid hk
  have HLN : Hid (((spreadN bs).map wv).length = 64) := by show ((spreadN bs).map wv).length = 64; rw [List.length_map, spreadN_length]
  have HI : Hid ((Tryd.prog.info? 63).map (·.size) = some 64) := by show _ = _; kernel_rfl
  clear hs hb hl hk
  unfold stV wordsV
  change Calls _ _ #[.agg #[.int .u32 (sa : Int), .int .u32 (sb : Int), .int .u32 (sc : Int), .int .u32 (sd : Int), .int .u32 (se : Int), .int .u32 (sf : Int), .int .u32 (sg : Int), .int .u32 (sh : Int)], .pointer (some ⟨b, 0, none⟩)] _ _
  go_enter Tryd.func31, Tryd.ntmps31
  go_wp2_with (fail)
  refine (spread_any b bs _ ?_ HL.out).mono ?_
  · exact ((HB.out.alloc _).alloc _)
  rintro e w1 ⟨rfl, hb1⟩
  have D1 := Lib.hid hb1
  have HM := Lib.hid (Blk.made w1 63 (List.replicate 64 (Value.int .u32 0)))
  clear hb1
  go_wp2_with (refine wpList_store_blk rfl 63 _ _ rfl w1.heap.size 63 _ HM.out ((spreadN bs).map wv) rfl rfl (by rw [HLN.out]; rfl) (by rw [HLN.out]; exact HI.out) (wv_one _) ?_; intro w2 hb2 hs2)
  have HX : Blk w2 w.heap.size 57 [.int .u32 (sa : Int), .int .u32 (sb : Int), .int .u32 (sc : Int), .int .u32 (sd : Int), .int .u32 (se : Int), .int .u32 (sf : Int), .int .u32 (sg : Int), .int .u32 (sh : Int)] := by
    have h := (((Blk.made w 57 [.int .u32 (sa : Int), .int .u32 (sb : Int), .int .u32 (sc : Int), .int .u32 (sd : Int), .int .u32 (se : Int), .int .u32 (sf : Int), .int .u32 (sg : Int), .int .u32 (sh : Int)]).alloc _).below D1.out (by simp; omega)).alloc (.cells (List.replicate 64 (Value.int .u32 0)).toArray 63)
    have hlt := D1.out.size
    simp at hlt
    exact hs2.blk h (by omega)
  have hr2 : Blk w2 (w.heap.size + 1) 57 (List.replicate 8 (Value.int .u32 0)) := by
    have h0 := Blk.made (w.alloc (.cells #[.int .u32 (sa : Int), .int .u32 (sb : Int), .int .u32 (sc : Int), .int .u32 (sd : Int), .int .u32 (se : Int), .int .u32 (sf : Int), .int .u32 (sg : Int), .int .u32 (sh : Int)] 57)) 57 (List.replicate 8 (Value.int .u32 0))
    simp only [World.size_alloc] at h0
    have h := (h0.below D1.out (by simp)).alloc (.cells (List.replicate 64 (Value.int .u32 0)).toArray 63)
    have hlt := D1.out.size
    simp at hlt
    exact hs2.blk h (by omega)
  have HR2 := Lib.hid hr2
  have x0 : w2.cell? ⟨w.heap.size, 0, none⟩ = some (.int .u32 (sa : Int)) := HX.cell 0
  have x1 : w2.cell? ⟨w.heap.size, 1, none⟩ = some (.int .u32 (sb : Int)) := HX.cell 1
  have x2 : w2.cell? ⟨w.heap.size, 2, none⟩ = some (.int .u32 (sc : Int)) := HX.cell 2
  have x3 : w2.cell? ⟨w.heap.size, 3, none⟩ = some (.int .u32 (sd : Int)) := HX.cell 3
  have x4 : w2.cell? ⟨w.heap.size, 4, none⟩ = some (.int .u32 (se : Int)) := HX.cell 4
  have x5 : w2.cell? ⟨w.heap.size, 5, none⟩ = some (.int .u32 (sf : Int)) := HX.cell 5
  have x6 : w2.cell? ⟨w.heap.size, 6, none⟩ = some (.int .u32 (sg : Int)) := HX.cell 6
  have x7 : w2.cell? ⟨w.heap.size, 7, none⟩ = some (.int .u32 (sh : Int)) := HX.cell 7
  have D2 : Below w.heap.size w w2 := ((((Below.refl _ _).alloc (Nat.le_refl _) _).alloc (by simp) _).trans (D1.out.mono (by simp; omega))).trans (((Below.refl _ _).alloc (by have := D1.out.size; simp at this; omega) _).trans (hs2.below.mono (by have := D1.out.size; simp at this; omega)))
  have HD2 := Lib.hid D2
  have HB2 := Lib.hid hb2
  have HK2 := Lib.hid (HK.out.below D2)
  have hok := HOK.out
  clear HX hr2 D2 hb2 hs2 D1 HM HI HLN HB
  go_quiet (fail)
  go_wp2_with (fail)
  refine thr_loop _ _ _ _ _ _ _ _ _ _ _ _ _ _ _ _ _ _ _ _ _ _ _ _ _ _ _ _ _ _ _ _ _ _ _ _ _ _ _ _ _ _ _ _ _ _ _ _ _ _ _ _ _ _ _ _ _ _ _ _ _ _ _ _ _ _ _ _ _ _ _ _ _ _ _ _ _ _ _ _ _ _ _ _ _ _ _ _ _ _ _ _ _ _ _ _ _ _ _ _ _ _ _ _ _ _ _ _ _ _ _ _ _ _ _ _ _ _ _ _ _ _ _ _ _ ⟨sa, sb, sc, sd, se, sf, sg, sh⟩ (Lib.hid hok) (spreadN bs) (Lib.hid ⟨spreadN_length bs, spreadN_lt bs⟩) _ w1.heap.size (Lib.hid (HB2.out.drewN _)) (Lib.hid (HK2.out.drewN _)) (Lib.hid ?_)
  intro u14 u15 u16 u17 u18 u37 u38 u39 u40 u41 u42 u43 u44 u45 u46 u47 u48 u49 u50 u51 u52 u53 u54 u55 u56 u57 u58 u59 u60 u61 u62 u63 u64 u65 u66 u67 u68 u69 u70 u71 u72 u73 u74 u75 u76 u77 u78 u79 u80 u81 u82 u83 u84 u85 u86 u87 u88 u89 u90 u91 u92 u93 u94 u95 u96 u97 u98 u99 u100 u101 n t ht
  have tok : t.ok := by rw [ht.out]; exact rnds_ok hok _ 64
  obtain ⟨ta, tb, tc, td, te, tf, tg, th⟩ := t
  obtain ⟨o1, o2, o3, o4, o5, o6, o7, o8⟩ := hok
  obtain ⟨p1, p2, p3, p4, p5, p6, p7, p8⟩ := tok
  simp only at o1 o2 o3 o4 o5 o6 o7 o8 p1 p2 p3 p4 p5 p6 p7 p8
  unfold wv
  dsimp only
  obtain ⟨w3, hw3⟩ : ∃ W : World, W = (w2.drewN nq).drewN n := ⟨_, rfl⟩
  have y0 : w3.cell? ⟨w.heap.size, 0, none⟩ = some (.int .u32 (sa : Int)) := hw3 ▸ x0
  have y1 : w3.cell? ⟨w.heap.size, 1, none⟩ = some (.int .u32 (sb : Int)) := hw3 ▸ x1
  have y2 : w3.cell? ⟨w.heap.size, 2, none⟩ = some (.int .u32 (sc : Int)) := hw3 ▸ x2
  have y3 : w3.cell? ⟨w.heap.size, 3, none⟩ = some (.int .u32 (sd : Int)) := hw3 ▸ x3
  have y4 : w3.cell? ⟨w.heap.size, 4, none⟩ = some (.int .u32 (se : Int)) := hw3 ▸ x4
  have y5 : w3.cell? ⟨w.heap.size, 5, none⟩ = some (.int .u32 (sf : Int)) := hw3 ▸ x5
  have y6 : w3.cell? ⟨w.heap.size, 6, none⟩ = some (.int .u32 (sg : Int)) := hw3 ▸ x6
  have y7 : w3.cell? ⟨w.heap.size, 7, none⟩ = some (.int .u32 (sh : Int)) := hw3 ▸ x7
  have HR3 : Hid (Blk w3 (w.heap.size + 1) 57 (List.replicate 8 (Value.int .u32 0))) := Lib.hid (hw3 ▸ HR2.out)
  have HD3 : Hid (Below w.heap.size w w3) := Lib.hid (hw3 ▸ below_drewN (below_drewN HD2.out nq) n)
  rw [← hw3]
  clear hw3 x0 x1 x2 x3 x4 x5 x6 x7
  have HI8 : Hid ((Tryd.prog.info? 57).map (·.size) = some 8) := by show _ = _; kernel_rfl
  go_wp2_with (refine wpList_store_blk rfl 57 _ _ rfl (w.heap.size + 1) 57 _ HR3.out [Value.int .u32 (((sa : Int) + (ta : Int)) % 4294967296), Value.int .u32 (((sb : Int) + (tb : Int)) % 4294967296), Value.int .u32 (((sc : Int) + (tc : Int)) % 4294967296), Value.int .u32 (((sd : Int) + (td : Int)) % 4294967296), Value.int .u32 (((se : Int) + (te : Int)) % 4294967296), Value.int .u32 (((sf : Int) + (tf : Int)) % 4294967296), Value.int .u32 (((sg : Int) + (tg : Int)) % 4294967296), Value.int .u32 (((sh : Int) + (th : Int)) % 4294967296)] rfl rfl rfl HI8.out (by simp [Value.oneCell']) ?_; intro w9 hb9 hs9)
  have e : ∀ x y : Nat, Value.int .u32 (((x : Int) + (y : Int)) % 4294967296) = wv ((x + y) % 4294967296) := fun x y => congrArg (Value.int .u32) (by omega)
  have hg : goOn ⟨sa, sb, sc, sd, se, sf, sg, sh⟩ bs = St.add ⟨sa, sb, sc, sd, se, sf, sg, sh⟩ ⟨ta, tb, tc, td, te, tf, tg, th⟩ := by unfold goOn; rw [ht.out]
  simp only [e] at hb9
  rw [hg]
  refine bodyPost_ret ?_ rfl ⟨rfl, HD3.out.trans (hs9.below.mono (by omega))⟩
  exact results_blk (ty := 57) Tryd.results31 _ w9 (w.heap.size + 1) 57 ((St.add ⟨sa, sb, sc, sd, se, sf, sg, sh⟩ ⟨ta, tb, tc, td, te, tf, tg, th⟩).list.map wv) _ rfl hb9 Tryd.underlying57 rfl HI8.out
end Go.Proofs.YtpjidfcbckndfaaDoor
