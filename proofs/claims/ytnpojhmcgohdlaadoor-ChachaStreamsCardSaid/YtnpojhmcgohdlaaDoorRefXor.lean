/- The contract of the fourth reference's Xor. Conditions: a key of 32 bytes, a nonce of 12, a number that fits uint32; at most 1000000 bytes. -/
import Derived.Test.YtnpojhmcgohdlaaDoorRefBlk
namespace Go.Proofs.YtnpojhmcgohdlaaDoor
open Go.RowKit
attribute [local go_sem ↓] Go.wp_at_zero Go.wp_at_succ

structure RxS (w : World) (k nonce bs : List UInt8) (n0 : Nat) (m o blk : Value) (j : Nat) (W : World) : Prop where
  num : m = .int .u32 (((n0 + (j + 63) / 64) % 4294967296 : Nat) : Int)
  own : W.ownsRow w.heap.size 5 1 o j (((chaXor k nonce n0 bs).take j).map bv)
  rdb : 0 < j % 64 → Rd W blk (chaBlock k ((n0 + j / 64) % 4294967296) nonce)
  apart : 0 < j % 64 → Apart2 blk o
  below : Below w.heap.size w W
def RxRel (w : World) (k nonce bs : List UInt8) (n0 : Nat) (m o blk i : Value) (W : World) : Prop :=
  ∃ j : Nat, i = .int .i64 (j : Int) ∧ j ≤ bs.length ∧ RxS w k nonce bs n0 m o blk j W
theorem chaXor_succ (k nonce : List UInt8) (n : Nat) (b : List UInt8) (j : Nat) (h : j < b.length) : (chaXor k nonce n b).take (j + 1) = (chaXor k nonce n b).take j ++ [b[j] ^^^ chaS k nonce n j] := by
  rw [List.take_succ_eq_append_getElem (by rw [chaXor_length]; exact h)]
  simp [chaXor]
theorem RxS.next {w W W' : World} {k nonce bs : List UInt8} {n0 j : Nat} {blk m' o' : Value} {y : UInt8} (h : Below w.heap.size w W) (hj : j < bs.length) (hy : y = chaS k nonce n0 j) (hm : m' = .int .u32 (((n0 + (j + 64) / 64) % 4294967296 : Nat) : Int))
    (ho : W'.ownsRow w.heap.size 5 1 o' (j + 1) (((chaXor k nonce n0 bs).take j).map bv ++ [bv (bs[j] ^^^ y)])) (hr : Rd W' blk (chaBlock k ((n0 + j / 64) % 4294967296) nonce)) (hap : Apart2 blk o') (hb : Below w.heap.size W W') : RxS w k nonce bs n0 m' o' blk (j + 1) W' := by
  refine ⟨hm, ?_, fun h0 => ?_, fun _ => hap, h.trans hb⟩
  · rw [chaXor_succ _ _ _ _ _ hj, List.map_append, ← hy]
    exact ho
  · rw [show (j + 1) / 64 = j / 64 by omega]
    exact hr
noncomputable def body_rxor : Code := (((Tryd.f13.body.map loopsOf).getD [])[0]?).getD .skip
set_option maxRecDepth 100000 in
set_option maxHeartbeats 2000000 in
theorem rxor_loop (c0 c1 c6 c7 c8 c12 c13 c14 c15 c16 c17 c18 c19 c20 c21 c22 c23 c24 c25 c26 c27 c28 c29 c30 c31 c32 c33 c34 c35 c36 c37 c38 c39 c40 : Value) (v : Value) (k nonce bs : List UInt8) (n0 KB NB : Nat) (w : World) (hk : Hid (k.length = 32)) (hno : Hid (nonce.length = 12)) (hn : n0 < 4294967296) (hv : Hid (Rd w v bs)) (hl : bs.length ≤ 1000000)
    (hkb : Hid (Blk w KB 22 (k.map bv))) (hnb : Hid (Blk w NB 25 (nonce.map bv))) {Q : Exit → Act → World → Prop}
    (HQ : Hid (∀ (u10 u11 u12 u13 u14 u15 u16 u17 u18 u19 u20 u21 u22 u23 u24 u25 u26 u27 u28 u29 u30 u31 u32 u33 u34 u35 u36 u37 u38 u39 m o : Value) (wx : World), Hid (wx.ownsRow w.heap.size 5 1 o bs.length ((chaXor k nonce n0 bs).map bv)) → Hid (Below w.heap.size w wx) → Q (.exit 0) ⟨List.toArray (c0 :: c1 :: m :: v :: (.pointer (some ⟨KB, 0, none⟩)) :: (.pointer (some ⟨NB, 0, none⟩)) :: c6 :: c7 :: c8 :: o :: u10 :: u11 :: u12 :: u13 :: u14 :: u15 :: u16 :: u17 :: u18 :: u19 :: u20 :: u21 :: u22 :: u23 :: u24 :: u25 :: u26 :: u27 :: u28 :: u29 :: u30 :: u31 :: u32 :: u33 :: u34 :: u35 :: u36 :: u37 :: u38 :: u39 :: c40 :: []), []⟩ wx)) :
    (Code.loop body_rxor).wp Tryd.prog Q ⟨List.toArray (c0 :: c1 :: (.int .u32 (n0 : Int)) :: v :: (.pointer (some ⟨KB, 0, none⟩)) :: (.pointer (some ⟨NB, 0, none⟩)) :: c6 :: c7 :: c8 :: (.slice none 0 0) :: (.slice none 0 0) :: (.int .i64 0) :: c12 :: c13 :: c14 :: c15 :: c16 :: c17 :: c18 :: c19 :: c20 :: c21 :: c22 :: c23 :: c24 :: c25 :: c26 :: c27 :: c28 :: c29 :: c30 :: c31 :: c32 :: c33 :: c34 :: c35 :: c36 :: c37 :: c38 :: c39 :: c40 :: []), []⟩ w := by
  obtain ⟨i0, hi, hz0, hz1, hz2⟩ := info_parts info_u8
  have HI32 : Hid ((Tryd.prog.info? 22).map (·.size) = some 32) := by show _ = _; kernel_rfl
  have HI12 : Hid ((Tryd.prog.info? 25).map (·.size) = some 12) := by show _ = _; kernel_rfl
  have HKM : Hid ((k.map bv).length = 32) := by show _ = _; rw [List.length_map, hk.out]
  have HNM : Hid ((nonce.map bv).length = 12) := by show _ = _; rw [List.length_map, hno.out]
  obtain ⟨A, c, rfl, hc1, hc2, hA⟩ := hv.out.form
  have HA := Lib.hid hA
  have hlI : (bs.length : Int) ≤ 1000000 := by omega
  unfold maxLen at hc2
  have NL := Lib.hid hn
  clear hA hn
  unfold body_rxor
  conv => arg 2; arg 1; whnf
  go_loopw [2, 9, 10, 11] (fun m o b i wx => RxRel w k nonce bs n0 m o b i wx) (fun _ _ _ i _ => bs.length - (intOf i).toNat)
  case atStart => exact ⟨0, rfl, by omega, ⟨congrArg (Value.int .u32) (by have := NL.out; omega), World.ownsRow_nil _ _ _ _, fun h => by omega, fun h => by omega, Below.refl _ _⟩⟩
  case round =>
    obtain ⟨j, rfl, hj, st⟩ := hrel
    by_cases hlt : j < bs.length
    · have hI : (j : Int) < bs.length := by omega
      obtain ⟨q, hq⟩ : ∃ q, q = (n0 + (j + 63) / 64) % 4294967296 := ⟨_, rfl⟩
      have hm := st.num
      rw [← hq] at hm
      obtain ⟨bk, hbk⟩ := ex_eq1 (chaBlock k ((n0 + j / 64) % 4294967296) nonce)
      have HBL : Hid (bk.length = 64) := by show _ = _; rw [hbk, chaBlock_length]
      obtain ⟨y, hy⟩ : ∃ y, y = bk.getD (j % 64) 0 := ⟨_, rfl⟩
      have HY : Hid (y = chaS k nonce n0 j) := by show _ = _; rw [hy, hbk]; rfl
      obtain ⟨b, off, rfl, hb1, hb2⟩ := HA.out (by omega)
      have hcx := (st.below.cell (p := ⟨b, off + j, none⟩) hb1).trans (hb2 j hlt)
      obtain ⟨x, hx⟩ : ∃ x, x = bs[j] := ⟨_, rfl⟩
      rw [← hx] at hcx
      have HX := Lib.hid hx
      have HST := Lib.hid st
      have HBK := Lib.hid hbk
      have HYG := Lib.hid hy
      have HQ2 := Lib.hid hq

      have hqI : (q : Int) ≤ 4294967295 := by omega
      have hxI : (x.toNat : Int) ≤ 255 := by have := x.toNat_lt; omega
      have hyI : (y.toNat : Int) ≤ 255 := by have := y.toNat_lt; omega
      obtain ⟨r, hr⟩ : ∃ r, r = j % 64 := ⟨_, rfl⟩
      have hr64 : (r : Int) < 64 := by omega
      have HR := Lib.hid hr
      subst hm
      clear hb2 st hq hbk hy hx hj hr
      by_cases h64 : j % 64 = 0
      · have e64 : (((j : Int) % 64) == 0) = true := by rw [beq_iff_eq]; omega
        have HB : Hid (∀ W, Calls Tryd.prog 9 #[.agg (k.map bv).toArray, .int .u32 (q : Int), .agg (nonce.map bv).toArray] W (Own W 5 bk)) := Lib.hid fun W => by
          have h := refBlk_any k nonce q W hk.out hno.out (by omega)
          have e : chaBlock k q nonce = bk := by
            rw [HBK.out, HQ2.out, show (j + 63) / 64 = j / 64 by omega]
          rw [e] at h
          exact h
        have K1 := Lib.hid (hkb.out.below HST.out.below hkb.out.lt)
        have N1 := Lib.hid (hnb.out.below HST.out.below hnb.out.lt)
        have H64 := Lib.hid h64
        clear h64
        go_wp2_with (first
                     | refine wpList_load_blk rfl 22 _ rfl KB rfl 22 (k.map bv) _ K1.out Tryd.underlying22 rfl (by rw [HKM.out]; exact HI32.out) ?_
                     | refine wpList_load_blk rfl 25 _ rfl NB rfl 25 (nonce.map bv) _ N1.out Tryd.underlying25 rfl (by rw [HNM.out]; exact HI12.out) ?_)
        refine (HB.out _).mono ?_
        rintro e w1 ⟨vb, rfl, ownb, hbw⟩
        have rb := Rd.of_own ownb
        have BL1 : Hid (Below w.heap.size w w1) := Lib.hid (HST.out.below.trans (hbw.mono HST.out.below.size))
        have OW1 := Lib.hid (own_lain HST.out.own hbw)
        have hcx1 := (hbw.cell (p := ⟨b, off + j, none⟩) (World.block_lt_of_cell? _ _ hcx)).trans hcx
        have AP : Hid (Apart2 vb u9) := Lib.hid (fun q h1 h2 => by have := (ownb.lt q h1).1; have := (HST.out.own.lt q h2).2; omega)
        clear ownb hbw hcx
        obtain ⟨A2, cb, rfl, hb3, hb4, hA2⟩ := rb.form
        obtain ⟨g, off2, rfl, g1, g2⟩ := hA2 (by rw [HBL.out]; omega)
        have cy := g2 r (by rw [HBL.out]; omega)
        have ey : bk[r]'(by rw [HBL.out]; omega) = y := by rw [HYG.out, ← HR.out, List.getD, List.getElem?_eq_getElem (by rw [HBL.out]; omega)]; rfl
        rw [ey] at cy
        have cbI : (64 : Int) ≤ cb := by have := HBL.out; omega
        unfold maxLen at hb4
        rw [HBL.out]
        rw [HBL.out] at rb
        have RB := Lib.hid rb
        have AP2 : Hid (Apart2 (.slice (some ⟨g, off2, none⟩) 64 cb) u9) := Lib.hid (by have h := AP.out; rw [HBL.out] at h; exact h)
        have HGL := Lib.hid g1
        have X1 : Value.int .u8 (bits .xor .u8 (x.toNat : Int) (y.toNat : Int)) = bv (x ^^^ y) := xor_u8 x y
        have HX1 := Lib.hid X1
        have rI : (0 : Int) ≤ r := by omega
        have er : ((j : Int)).tmod 64 = (r : Int) := by have h := HR.out; rw [Int.tmod_eq_emod_of_nonneg (by omega)]; omega
        have er2 : ((j : Int)) % 64 = (r : Int) := by have h := HR.out; omega
        have ow : IntKind.i64.wrap (r : Int) = (r : Int) := IntWalk.i64_in _ (by omega)
        have qm : Hid (j + 1 ≤ maxLen) := by show j + 1 ≤ maxLen; unfold maxLen; omega
        have qb : Hid ((j + 1) * 1 ≤ 140737488355328) := by show (j + 1) * 1 ≤ 140737488355328; omega
        have hsz : w.heap.size ≤ w1.heap.size := BL1.out.size
        have HBS : Hid (b < w1.heap.size) := Lib.hid (Nat.lt_of_lt_of_le hb1 hsz)
        have HNE1 : Hid (some b ≠ u9.ownBlock) := Lib.hid (fun e => by have := (OW1.out.lt b e.symm).1; omega)
        have HNE2 : Hid (some g ≠ u9.ownBlock) := Lib.hid (fun e => AP.out g rfl e.symm)
        clear g2 ey rb X1 hb3 hA2 g1
        go_wp2_with (fail)
        go_region_held3 (fun W => W.cell? ⟨b, off + j, none⟩ = some (.int .u8 (x.toNat : Int)) ∧ W.cell? ⟨g, off2 + r, none⟩ = some (.int .u8 (y.toNat : Int)))
          (first | go_keep | exact ⟨(gr.cell (p := ⟨b, off + j, none⟩) HBS.out HNE1.out).trans (by assumption), (gr.cell (p := ⟨g, off2 + r, none⟩) HGL.out HNE2.out).trans (by assumption)⟩)
          ((refine step_append_one_at w1 _ _ (by rfl) _ _ _ (by rfl) w.heap.size 5 i0 _ 1 Tryd.underlying30 hi hz0 hz1 hz2 rfl rfl _ _ _ (by rfl) OW1.out (by rfl) qm.out qb.out hsz ?_; intro o2 w2 own2 gr))
        go_wp2_with (fail)
        go_roundw
        case rel =>
          refine ⟨j + 1, by go_num, by omega, RxS.next BL1.out hlt HY.out ?_ (by rw [← HX.out, ← HX1.out]; exact own2) (by rw [← HBK.out]; exact gr.rd RB.out AP2.out) (gr.apart (ob_lt HGL.out) AP2.out) gr.below⟩
          exact congrArg (Value.int .u32) (by have h1 := HQ2.out; have h2 := H64.out; omega)
        case measure => simp [intOf]; omega
      · have e64 : (((j : Int) % 64) == 0) = false := by rw [beq_eq_false_iff_ne]; omega
        have rb := HST.out.rdb (by omega)
        rw [← HBK.out] at rb
        have BL1 := Lib.hid HST.out.below
        have AP := Lib.hid (HST.out.apart (by omega))
        have OW1 := Lib.hid HST.out.own
        have H64 := Lib.hid h64
        clear h64
        obtain ⟨A2, cb, rfl, hb3, hb4, hA2⟩ := rb.form
        obtain ⟨g, off2, rfl, g1, g2⟩ := hA2 (by rw [HBL.out]; omega)
        have cy := g2 r (by rw [HBL.out]; omega)
        have ey : bk[r]'(by rw [HBL.out]; omega) = y := by rw [HYG.out, ← HR.out, List.getD, List.getElem?_eq_getElem (by rw [HBL.out]; omega)]; rfl
        rw [ey] at cy
        have cbI : (64 : Int) ≤ cb := by have := HBL.out; omega
        unfold maxLen at hb4
        rw [HBL.out]
        rw [HBL.out] at rb
        have RB := Lib.hid rb
        have AP2 : Hid (Apart2 (.slice (some ⟨g, off2, none⟩) 64 cb) u9) := Lib.hid (by have h := AP.out; rw [HBL.out] at h; exact h)
        have HGL := Lib.hid g1
        have X1 : Value.int .u8 (bits .xor .u8 (x.toNat : Int) (y.toNat : Int)) = bv (x ^^^ y) := xor_u8 x y
        have HX1 := Lib.hid X1
        have rI : (0 : Int) ≤ r := by omega
        have er : ((j : Int)).tmod 64 = (r : Int) := by have h := HR.out; rw [Int.tmod_eq_emod_of_nonneg (by omega)]; omega
        have er2 : ((j : Int)) % 64 = (r : Int) := by have h := HR.out; omega
        have ow : IntKind.i64.wrap (r : Int) = (r : Int) := IntWalk.i64_in _ (by omega)
        have qm : Hid (j + 1 ≤ maxLen) := by show j + 1 ≤ maxLen; unfold maxLen; omega
        have qb : Hid ((j + 1) * 1 ≤ 140737488355328) := by show (j + 1) * 1 ≤ 140737488355328; omega
        have hsz : w.heap.size ≤ wr.heap.size := BL1.out.size
        have HBS : Hid (b < wr.heap.size) := Lib.hid (Nat.lt_of_lt_of_le hb1 hsz)
        have HNE1 : Hid (some b ≠ u9.ownBlock) := Lib.hid (fun e => by have := (OW1.out.lt b e.symm).1; omega)
        have HNE2 : Hid (some g ≠ u9.ownBlock) := Lib.hid (fun e => AP.out g rfl e.symm)
        clear g2 ey rb X1 hb3 hA2 g1
        go_wp2_with (fail)
        go_region_held3 (fun W => W.cell? ⟨b, off + j, none⟩ = some (.int .u8 (x.toNat : Int)) ∧ W.cell? ⟨g, off2 + r, none⟩ = some (.int .u8 (y.toNat : Int)))
          (first | go_keep | exact ⟨(gr.cell (p := ⟨b, off + j, none⟩) HBS.out HNE1.out).trans (by assumption), (gr.cell (p := ⟨g, off2 + r, none⟩) HGL.out HNE2.out).trans (by assumption)⟩)
          ((refine step_append_one_at wr _ _ (by rfl) _ _ _ (by rfl) w.heap.size 5 i0 _ 1 Tryd.underlying30 hi hz0 hz1 hz2 rfl rfl _ _ _ (by rfl) OW1.out (by rfl) qm.out qb.out hsz ?_; intro o2 w2 own2 gr))
        go_wp2_with (fail)
        go_roundw
        case rel =>
          refine ⟨j + 1, by go_num, by omega, RxS.next BL1.out hlt HY.out ?_ (by rw [← HX.out, ← HX1.out]; exact own2) (by rw [← HBK.out]; exact gr.rd RB.out AP2.out) (gr.apart (ob_lt HGL.out) AP2.out) gr.below⟩
          exact congrArg (Value.int .u32) (by have h1 := HQ2.out; have h2 := H64.out; omega)
        case measure => simp [intOf]; omega
    · obtain rfl : j = bs.length := by omega
      have HO : Hid (wr.ownsRow w.heap.size 5 1 u9 bs.length ((chaXor k nonce n0 bs).map bv)) := Lib.hid (by
        have h := st.own
        rw [List.take_of_length_le (by rw [chaXor_length]; exact Nat.le_refl _)] at h
        exact h)
      have HB := Lib.hid st.below
      clear st hj
      go_wp2_with (fail)
      exact HQ.out _ _ _ _ _ _ _ _ _ _ _ _ _ _ _ _ _ _ _ _ _ _ _ _ _ _ _ _ _ _ _ _ _ HO HB
set_option maxRecDepth 100000 in
set_option maxHeartbeats 2000000 in
theorem refXor_any (v : Value) (k nonce bs : List UInt8) (n : Nat) (w : World) (hk : k.length = 32) (hno : nonce.length = 12) (hn : n < 4294967296) (hv : Rd w v bs) (hl : bs.length ≤ 1000000) :
    Calls Tryd.prog 13 #[arrV k, arrV nonce, .int .u32 (n : Int), v] w (Own w 5 (chaXor k nonce n bs)) := by
  obtain ⟨W0, hW0⟩ : ∃ W : World, W = (w.alloc (.cells (k.map bv).toArray 22)).alloc (.cells (nonce.map bv).toArray 25) := ⟨_, rfl⟩
  have D0 : Hid (Below w.heap.size w W0) := Lib.hid (by rw [hW0]; exact ((Below.refl _ _).alloc (Nat.le_refl _) _).alloc (by simp) _)
  have K0 : Hid (Blk W0 w.heap.size 22 (k.map bv)) := Lib.hid (by rw [hW0]; exact (Blk.made w _ _).alloc _)
  have N0 : Hid (Blk W0 (w.heap.size + 1) 25 (nonce.map bv)) := Lib.hid (by
    have h := Blk.made (w.alloc (.cells (k.map bv).toArray 22)) 25 (nonce.map bv)
    rw [World.size_alloc] at h
    rw [hW0]
    exact h)
  have R0 := Lib.hid (hv.below D0.out)
  have HK := Lib.hid hk
  have HN := Lib.hid hno
  have nI : (n : Int) ≤ 4294967295 := by omega
  clear hk hno hv
  subst hW0
  unfold arrV
  go_enter Tryd.func13, Tryd.ntmps13
  go_wp2_with (first
               | refine Go.Great.wpList_boxTo rfl _ _ rfl _ rfl w.heap.size rfl ((k.map bv).toArray) rfl ?_
               | refine Go.Great.wpList_boxTo rfl _ _ rfl _ rfl (w.heap.size + 1) (by simp) ((nonce.map bv).toArray) rfl ?_)
  refine rxor_loop _ _ _ _ _ _ _ _ _ _ _ _ _ _ _ _ _ _ _ _ _ _ _ _ _ _ _ _ _ _ _ _ _ _ v k nonce bs n w.heap.size (w.heap.size + 1) _ HK HN hn R0 hl K0 N0 (Lib.hid ?_)
  intro u10 u11 u12 u13 u14 u15 u16 u17 u18 u19 u20 u21 u22 u23 u24 u25 u26 u27 u28 u29 u30 u31 u32 u33 u34 u35 u36 u37 u38 u39 m o w2 ho hb
  go_wp2_with (fail)
  go_ret
  refine ⟨o, rfl, ?_, D0.out.trans (hb.out.mono D0.out.size)⟩
  rw [chaXor_length]
  exact own_mono ho.out D0.out.size
end Go.Proofs.YtnpojhmcgohdlaaDoor
