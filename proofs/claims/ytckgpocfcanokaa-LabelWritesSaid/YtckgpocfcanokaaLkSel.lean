/- The developers' read and Selector. Condition: the text may be. -/
import Derived.Test.YtckgpocfcanokaaLkQsM
import Derived.Test.YtckgpocfcanokaaToPtr
namespace Go.Proofs.Ytckgpocfcanokaa
open Go.RowKit

theorem size_sl : (Try.prog.info? 28).map (·.size) = some 2 := by kernel_rfl
set_option maxRecDepth 100000 in
set_option maxHeartbeats 4000000 in
theorem readL_any (s : ByteArray) (w : World) (hm : s.size ≤ maxLen) :
    Calls Try.prog 19 #[.string s] w fun e w' => ∃ (n : ByteArray) (v : Value) (l : List Qu) (g : Bool), e = .returned (.tuple #[.agg #[.string n, v], .bool g]) ∧ QA w w' v l ∧ n.size ≤ maxLen ∧ RdSe s.toList ⟨n, l⟩ g ∧ Below w.heap.size w w' := by
  obtain ⟨R, hR⟩ : ∃ R, R = w.heap.size := ⟨_, rfl⟩
  obtain ⟨W0, hW0⟩ : ∃ W : World, W = w.alloc (.cells #[.string ⟨#[]⟩, .slice none 0 0] 28) := ⟨_, rfl⟩
  have D0 : Hid (Below w.heap.size w W0) := Lib.hid (by rw [hW0]; exact (Below.refl _ _).alloc (Nat.le_refl _) _)
  have K0 : Hid (Blk W0 R 28 [.string ⟨#[]⟩, .slice none 0 0]) := Lib.hid (by rw [hW0, hR]; exact Blk.made w _ _)
  have HX : Hid (W0 = w.alloc (.cells #[.string ⟨#[]⟩, .slice none 0 0] 28)) := Lib.hid hW0
  have HRW := Lib.hid hR
  have C1 := Lib.hid (wordAt_any s W0 hm)
  have HM := Lib.hid hm
  clear hW0 hm
  go_enter Try.func19, Try.ntmps19
  go_upto_region 1 with (fail)
  rw [← hR, ← HX.out]
  clear HX hR
  go_wp2_with (fail)
  refine C1.out.mono ?_
  rintro e w1 ⟨n, rfl, hn, hw1⟩
  replace hw1 := hw1.symm
  subst hw1
  have HNW : Hid (n.toList = wdB s.toList) := Lib.hid hn
  obtain ⟨hle, hbh⟩ := bh_at s n HNW.out
  have HBH := Lib.hid hbh
  have HLE := Lib.hid hle
  have nI : (n.size : Int) ≤ s.size := by omega
  clear hn hbh hle C1
  go_upto_region 2 with (fail)
  obtain ⟨Y, hY⟩ : ∃ Y, Y = W0.heap.size := ⟨_, rfl⟩
  obtain ⟨W1, hW1⟩ : ∃ W : World, W = W0.alloc (.cells #[.string n, .slice none 0 0] 28) := ⟨_, rfl⟩
  have B1 : Hid (Below W0.heap.size W0 W1) := Lib.hid (by rw [hW1]; exact (Below.refl _ _).alloc (Nat.le_refl _) _)
  have D1 : Hid (Below w.heap.size w W1) := Lib.hid (D0.out.trans (B1.out.mono D0.out.size))
  have KY : Hid (Blk W1 Y 28 [.string n, .slice none 0 0]) := Lib.hid (by rw [hW1, hY]; exact Blk.made W0 _ _)
  have KR : Hid (Blk W1 R 28 [.string ⟨#[]⟩, .slice none 0 0]) := Lib.hid (K0.out.below B1.out K0.out.lt)
  have HRY : Hid (R < Y) := Lib.hid (by rw [hY]; exact K0.out.lt)
  rw [← hW1, ← hY]
  clear hW1 hY B1 K0 D0
  have HNM : Hid (n.size ≤ maxLen) := Lib.hid (Nat.le_trans HLE.out HM.out)
  have y0 : W1.cell? ⟨Y, 0, none⟩ = some (.string n) := KY.out.cell 0
  have y1 : W1.cell? ⟨Y, 1, none⟩ = some (.slice none 0 0) := KY.out.cell 1
  have C2 := Lib.hid (isWord_any n W1 HNM.out)
  have HFin : Hid (∀ (V V' : World) (v : Value) (l : List Qu), Below w.heap.size w V → QA W1 V v l → Sole V V' R → QA w V' v l ∧ Below w.heap.size w V') := Lib.hid fun V V' v l hb hq hs => by
    have hR := HRW.out
    have hc : Chg (fun k => k = R) V V' := ⟨hs.below.os, hs.below.tape, hs.below.output, Nat.le_of_eq hs.size.symm, fun k _ hk => hs.other k hk⟩
    exact ⟨(hq.chg hc fun k e => by have := KR.out.lt; omega).mono D1.out.size, hb.trans (hc.below (fun k e => by omega) hb.size)⟩
  have QN : Hid (QA W1 W1 (.slice none 0 0) []) := Lib.hid ⟨OwnR.nil _ _ _ _, fun q h => (List.not_mem_nil h).elim⟩
  by_cases hne : n.toList = []
  · have z0 : n.toList.isEmpty = true := by rw [hne]; rfl
    have HW : Hid (n.toList = [] ∨ wordB n.toList = true) := Lib.hid (.inl hne)
    clear hne
    go_upto_region 5 with (fail)
    obtain ⟨b, hb⟩ : ∃ b, b = s.extract n.size s.size := ⟨_, rfl⟩
    rw [← hb] at HBH ⊢
    have HBM : Hid (b.size ≤ maxLen) := Lib.hid (by rw [hb, ByteArray.size_extract]; have := HM.out; omega)
    clear hb
    cases hbe : b.toList.isEmpty with
    | true =>
      have HRD : Hid (RdSe s.toList ⟨n, []⟩ true) := Lib.hid (rd_alone HNW.out HW.out (by rw [← HBH.out]; exact List.isEmpty_iff.1 hbe))
      go_wp2_with ((with_reducible refine here_store ?_); refine wpList_store_blk rfl 28 _ _ rfl R 28 [.string ⟨#[]⟩, .slice none 0 0] KR.out [.string n, .slice none 0 0] rfl rfl rfl size_sl (by intro u hu; simp only [List.mem_cons, List.not_mem_nil, or_false] at hu; rcases hu with rfl | rfl <;> rfl) ?_; intro w3 k3 s3; (have K3 := Lib.hid k3); (have S3 := Lib.hid s3); clear k3 s3; go_frame)
      obtain ⟨q3, b3⟩ := HFin.out W1 w3 _ [] D1.out QN.out S3.out
      refine bodyPost_ret (v := .tuple #[.agg #[.string n, .slice none 0 0], .bool true]) ?_ rfl ⟨n, _, [], true, rfl, q3, HNM.out, HRD.out, b3⟩
      exact results_blk_tmp (ty := 28) Try.results19 _ w3 R 28 [.string n, .slice none 0 0] _ _ rfl rfl K3.out Try.underlying28 rfl size_sl
    | false =>
      have HBN : Hid (bhB s.toList ≠ []) := Lib.hid (by
        rw [← HBH.out]
        intro h
        rw [h] at hbe
        cases hbe)
      have C3 := Lib.hid (questions_any b W1 HBM.out)
      go_wp2_with (fail)
      refine C3.out.mono ?_
      rintro e w2 ⟨v, l, g, rfl, hqa, hrd, hb2⟩
      have HRD : Hid (RdSe s.toList ⟨n, l⟩ g) := Lib.hid (rd_more HNW.out HW.out HBN.out (by rw [← HBH.out]; exact hrd))
      obtain ⟨A, c, hv, _⟩ := hqa.own.form
      rw [List.length_map] at hv
      subst hv
      have HQA := Lib.hid hqa
      have HB2 := Lib.hid hb2
      have KY2 := Lib.hid (KY.out.below hb2 KY.out.lt)
      have KR2 := Lib.hid (KR.out.below hb2 KR.out.lt)
      clear hqa hrd hb2 C3 y0 y1 hbe
      have y1 : w2.cell? ⟨Y, 1, none⟩ = some (.slice none 0 0) := KY2.out.cell 1
      have g1 : w2.frozen? ⟨Y, 1, none⟩ = false := KY2.out.free 1
      go_upto_region 9 with (fail)
      obtain ⟨W3, hW3⟩ : ∃ W, W = w2.setCell ⟨Y, 1, none⟩ (.slice A l.length c) := ⟨_, rfl⟩
      have KY3 : Hid (Blk W3 Y 28 [.string n, .slice A l.length c]) := Lib.hid (by rw [hW3]; exact KY2.out.set 1 _)
      have KR3 : Hid (Blk W3 R 28 [.string ⟨#[]⟩, .slice none 0 0]) := Lib.hid (by rw [hW3]; exact KR2.out.other (p := ⟨Y, 1, none⟩) (Nat.ne_of_lt HRY.out) _)
      have Q3 : Hid (QA W1 W3 (.slice A l.length c) l) := Lib.hid (by rw [hW3]; exact HQA.out.chg (Chg.setCell (fun k => k = Y) w2 Y 1 _ rfl) fun k e => by rw [e]; exact KY.out.lt)
      have D3 : Hid (Below w.heap.size w W3) := Lib.hid (by
        have h1 := HRY.out
        have h2 := HRW.out
        rw [hW3]
        exact (D1.out.trans (HB2.out.mono D1.out.size)).setCell (p := ⟨Y, 1, none⟩) (by simp only; omega) _)
      rw [← hW3]
      clear hW3 y1 g1
      have y0 : W3.cell? ⟨Y, 0, none⟩ = some (.string n) := KY3.out.cell 0
      have y1 : W3.cell? ⟨Y, 1, none⟩ = some (.slice A l.length c) := KY3.out.cell 1
      go_wp2_with ((with_reducible refine here_store ?_); refine wpList_store_blk rfl 28 _ _ rfl R 28 [.string ⟨#[]⟩, .slice none 0 0] KR3.out [.string n, .slice A l.length c] rfl rfl rfl size_sl (by intro u hu; simp only [List.mem_cons, List.not_mem_nil, or_false] at hu; rcases hu with rfl | rfl <;> rfl) ?_; intro w4 k4 s4; (have K4 := Lib.hid k4); (have S4 := Lib.hid s4); clear k4 s4; go_frame)
      obtain ⟨q4, b4⟩ := HFin.out W3 w4 _ l D3.out Q3.out S4.out
      refine bodyPost_ret (v := .tuple #[.agg #[.string n, .slice A l.length c], .bool g]) ?_ rfl ⟨n, _, l, g, rfl, q4, HNM.out, HRD.out, b4⟩
      exact results_blk_tmp (ty := 28) Try.results19 _ w4 R 28 [.string n, .slice A l.length c] _ _ rfl rfl K4.out Try.underlying28 rfl size_sl
  · have z0 : n.toList.isEmpty = false := by
      cases hl : n.toList with
      | nil => exact absurd hl hne
      | cons a l => rfl
    have HNE := Lib.hid hne
    clear hne
    cases hw : wordB n.toList with
    | false =>
      rw [hw] at C2
      have HRD : Hid (RdSe s.toList ⟨n, []⟩ false) := Lib.hid (rd_name HNW.out HNE.out hw)
      clear hw
      go_wp2_with (fail)
      refine C2.out.mono ?_
      rintro e w2 ⟨rfl, hw2⟩
      replace hw2 := hw2.symm
      subst hw2
      go_wp2_with ((with_reducible refine here_store ?_); refine wpList_store_blk rfl 28 _ _ rfl R 28 [.string ⟨#[]⟩, .slice none 0 0] KR.out [.string n, .slice none 0 0] rfl rfl rfl size_sl (by intro u hu; simp only [List.mem_cons, List.not_mem_nil, or_false] at hu; rcases hu with rfl | rfl <;> rfl) ?_; intro w3 k3 s3; (have K3 := Lib.hid k3); (have S3 := Lib.hid s3); clear k3 s3; go_frame)
      obtain ⟨q3, b3⟩ := HFin.out W1 w3 _ [] D1.out QN.out S3.out
      refine bodyPost_ret (v := .tuple #[.agg #[.string n, .slice none 0 0], .bool false]) ?_ rfl ⟨n, _, [], false, rfl, q3, HNM.out, HRD.out, b3⟩
      exact results_blk_tmp (ty := 28) Try.results19 _ w3 R 28 [.string n, .slice none 0 0] _ _ rfl rfl K3.out Try.underlying28 rfl size_sl
    | true =>
      rw [hw] at C2
      have HW : Hid (n.toList = [] ∨ wordB n.toList = true) := Lib.hid (.inr hw)
      clear hw
      go_wp2_with (fail)
      refine C2.out.mono ?_
      rintro e w2 ⟨rfl, hw2⟩
      replace hw2 := hw2.symm
      subst hw2
      go_upto_region 5 with (fail)
      obtain ⟨b, hb⟩ : ∃ b, b = s.extract n.size s.size := ⟨_, rfl⟩
      rw [← hb] at HBH ⊢
      have HBM : Hid (b.size ≤ maxLen) := Lib.hid (by rw [hb, ByteArray.size_extract]; have := HM.out; omega)
      clear hb
      cases hbe : b.toList.isEmpty with
      | true =>
        have HRD : Hid (RdSe s.toList ⟨n, []⟩ true) := Lib.hid (rd_alone HNW.out HW.out (by rw [← HBH.out]; exact List.isEmpty_iff.1 hbe))
        go_wp2_with ((with_reducible refine here_store ?_); refine wpList_store_blk rfl 28 _ _ rfl R 28 [.string ⟨#[]⟩, .slice none 0 0] KR.out [.string n, .slice none 0 0] rfl rfl rfl size_sl (by intro u hu; simp only [List.mem_cons, List.not_mem_nil, or_false] at hu; rcases hu with rfl | rfl <;> rfl) ?_; intro w3 k3 s3; (have K3 := Lib.hid k3); (have S3 := Lib.hid s3); clear k3 s3; go_frame)
        obtain ⟨q3, b3⟩ := HFin.out W1 w3 _ [] D1.out QN.out S3.out
        refine bodyPost_ret (v := .tuple #[.agg #[.string n, .slice none 0 0], .bool true]) ?_ rfl ⟨n, _, [], true, rfl, q3, HNM.out, HRD.out, b3⟩
        exact results_blk_tmp (ty := 28) Try.results19 _ w3 R 28 [.string n, .slice none 0 0] _ _ rfl rfl K3.out Try.underlying28 rfl size_sl
      | false =>
        have HBN : Hid (bhB s.toList ≠ []) := Lib.hid (by
          rw [← HBH.out]
          intro h
          rw [h] at hbe
          cases hbe)
        have C3 := Lib.hid (questions_any b W1 HBM.out)
        go_wp2_with (fail)
        refine C3.out.mono ?_
        rintro e w2 ⟨v, l, g, rfl, hqa, hrd, hb2⟩
        have HRD : Hid (RdSe s.toList ⟨n, l⟩ g) := Lib.hid (rd_more HNW.out HW.out HBN.out (by rw [← HBH.out]; exact hrd))
        obtain ⟨A, c, hv, _⟩ := hqa.own.form
        rw [List.length_map] at hv
        subst hv
        have HQA := Lib.hid hqa
        have HB2 := Lib.hid hb2
        have KY2 := Lib.hid (KY.out.below hb2 KY.out.lt)
        have KR2 := Lib.hid (KR.out.below hb2 KR.out.lt)
        clear hqa hrd hb2 C3 y0 y1 hbe
        have y1 : w2.cell? ⟨Y, 1, none⟩ = some (.slice none 0 0) := KY2.out.cell 1
        have g1 : w2.frozen? ⟨Y, 1, none⟩ = false := KY2.out.free 1
        go_upto_region 9 with (fail)
        obtain ⟨W3, hW3⟩ : ∃ W, W = w2.setCell ⟨Y, 1, none⟩ (.slice A l.length c) := ⟨_, rfl⟩
        have KY3 : Hid (Blk W3 Y 28 [.string n, .slice A l.length c]) := Lib.hid (by rw [hW3]; exact KY2.out.set 1 _)
        have KR3 : Hid (Blk W3 R 28 [.string ⟨#[]⟩, .slice none 0 0]) := Lib.hid (by rw [hW3]; exact KR2.out.other (p := ⟨Y, 1, none⟩) (Nat.ne_of_lt HRY.out) _)
        have Q3 : Hid (QA W1 W3 (.slice A l.length c) l) := Lib.hid (by rw [hW3]; exact HQA.out.chg (Chg.setCell (fun k => k = Y) w2 Y 1 _ rfl) fun k e => by rw [e]; exact KY.out.lt)
        have D3 : Hid (Below w.heap.size w W3) := Lib.hid (by
          have h1 := HRY.out
          have h2 := HRW.out
          rw [hW3]
          exact (D1.out.trans (HB2.out.mono D1.out.size)).setCell (p := ⟨Y, 1, none⟩) (by simp only; omega) _)
        rw [← hW3]
        clear hW3 y1 g1
        have y0 : W3.cell? ⟨Y, 0, none⟩ = some (.string n) := KY3.out.cell 0
        have y1 : W3.cell? ⟨Y, 1, none⟩ = some (.slice A l.length c) := KY3.out.cell 1
        go_wp2_with ((with_reducible refine here_store ?_); refine wpList_store_blk rfl 28 _ _ rfl R 28 [.string ⟨#[]⟩, .slice none 0 0] KR3.out [.string n, .slice A l.length c] rfl rfl rfl size_sl (by intro u hu; simp only [List.mem_cons, List.not_mem_nil, or_false] at hu; rcases hu with rfl | rfl <;> rfl) ?_; intro w4 k4 s4; (have K4 := Lib.hid k4); (have S4 := Lib.hid s4); clear k4 s4; go_frame)
        obtain ⟨q4, b4⟩ := HFin.out W3 w4 _ l D3.out Q3.out S4.out
        refine bodyPost_ret (v := .tuple #[.agg #[.string n, .slice A l.length c], .bool g]) ?_ rfl ⟨n, _, l, g, rfl, q4, HNM.out, HRD.out, b4⟩
        exact results_blk_tmp (ty := 28) Try.results19 _ w4 R 28 [.string n, .slice A l.length c] _ _ rfl rfl K4.out Try.underlying28 rfl size_sl
end Go.Proofs.Ytckgpocfcanokaa
