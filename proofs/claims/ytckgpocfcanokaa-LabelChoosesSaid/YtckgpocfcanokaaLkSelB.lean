/- The developers' Selector. Condition: at most 100000 bytes. -/
import Derived.Test.YtckgpocfcanokaaLkSel
namespace Go.Proofs.Ytckgpocfcanokaa
open Go.RowKit

set_option maxRecDepth 100000 in
set_option maxHeartbeats 4000000 in
theorem selectorL_any (t : ByteArray) (w : World) (hm : t.size ≤ 100000) :
    Calls Try.prog 15 #[.string t] w fun e w' => ∃ (n : ByteArray) (v : Value) (qs : List Qu) (k : Int), e = .returned (.tuple #[.agg #[.string n, v], .int .i64 k]) ∧ RsQu w' v qs ∧ n.size ≤ maxLen ∧ SelAns t ⟨n, qs⟩ k ∧ Below w.heap.size w w' := by
  obtain ⟨R, hR⟩ : ∃ R, R = w.heap.size := ⟨_, rfl⟩
  obtain ⟨W0, hW0⟩ : ∃ W : World, W = w.alloc (.cells #[.string ⟨#[]⟩, .slice none 0 0] 28) := ⟨_, rfl⟩
  have D0 : Hid (Below w.heap.size w W0) := Lib.hid (by rw [hW0]; exact (Below.refl _ _).alloc (Nat.le_refl _) _)
  have K0 : Hid (Blk W0 R 28 [.string ⟨#[]⟩, .slice none 0 0]) := Lib.hid (by rw [hW0, hR]; exact Blk.made w _ _)
  have HX : Hid (W0 = w.alloc (.cells #[.string ⟨#[]⟩, .slice none 0 0] 28)) := Lib.hid hW0
  have HRW := Lib.hid hR
  have C1 := Lib.hid (readL_any t W0 (by unfold maxLen; omega))
  clear hW0 hm
  go_enter Try.func15, Try.ntmps15
  go_upto_region 1 with (fail)
  rw [← hR, ← HX.out]
  clear HX hR
  go_wp2_with (fail)
  refine C1.out.mono ?_
  rintro e w1 ⟨n, v, l, g, rfl, hqa, hnm, hrd, hb1⟩
  obtain ⟨A, c, hv, _⟩ := hqa.own.form
  rw [List.length_map] at hv
  subst hv
  have HQA := Lib.hid hqa
  have HNM := Lib.hid hnm
  have HRD := Lib.hid hrd
  have D1 := Lib.hid (D0.out.trans (hb1.mono D0.out.size))
  have K1 := Lib.hid (K0.out.below hb1 K0.out.lt)
  have HRL := Lib.hid K0.out.lt
  clear hqa hnm hrd hb1 C1 K0 D0
  go_upto_region 2 with (fail)
  obtain ⟨Y, hY⟩ : ∃ Y, Y = w1.heap.size := ⟨_, rfl⟩
  obtain ⟨W2, hW2⟩ : ∃ W : World, W = w1.alloc (.cells #[.string n, .slice A l.length c] 28) := ⟨_, rfl⟩
  have B2 : Below w1.heap.size w1 W2 := by rw [hW2]; exact (Below.refl _ _).alloc (Nat.le_refl _) _
  have D2 : Hid (Below w.heap.size w W2) := Lib.hid (D1.out.trans (B2.mono D1.out.size))
  have KY : Hid (Blk W2 Y 28 [.string n, .slice A l.length c]) := Lib.hid (by rw [hW2, hY]; exact Blk.made w1 _ _)
  have KR : Hid (Blk W2 R 28 [.string ⟨#[]⟩, .slice none 0 0]) := Lib.hid (K1.out.below B2 K1.out.lt)
  have Q2 : Hid (QA W0 W2 (.slice A l.length c) l) := Lib.hid (HQA.out.bel B2)
  have HFin : Hid (∀ V', Sole W2 V' R → Below w.heap.size w V' ∧ QA W0 V' (.slice A l.length c) l) := Lib.hid fun V' hs => by
    have hc : Chg (fun k => k = R) W2 V' := ⟨hs.below.os, hs.below.tape, hs.below.output, Nat.le_of_eq hs.size.symm, fun k _ hk => hs.other k hk⟩
    have hR := HRW.out
    have hL := HRL.out
    exact ⟨D2.out.trans (hc.below (fun k e => by omega) D2.out.size), Q2.out.chg hc fun k e => by omega⟩
  rw [← hW2, ← hY]
  clear hW2 hY B2 HQA D1 K1
  have y0 : W2.cell? ⟨Y, 0, none⟩ = some (.string n) := KY.out.cell 0
  have y1 : W2.cell? ⟨Y, 1, none⟩ = some (.slice A l.length c) := KY.out.cell 1
  cases g with
  | true =>
    have HA : Hid (SelAns t ⟨n, l⟩ 0) := Lib.hid (.inl ⟨rfl, HRD.out.yes rfl⟩)
    go_wp2_with ((with_reducible refine here_store ?_); refine wpList_store_blk rfl 28 _ _ rfl R 28 [.string ⟨#[]⟩, .slice none 0 0] KR.out [.string n, .slice A l.length c] rfl rfl rfl size_sl (by intro u hu; simp only [List.mem_cons, List.not_mem_nil, or_false] at hu; rcases hu with rfl | rfl <;> rfl) ?_; intro w3 k3 s3; (have K3 := Lib.hid k3); (have S3 := Lib.hid s3); clear k3 s3; go_frame)
    obtain ⟨b3, q3⟩ := HFin.out w3 S3.out
    refine bodyPost_ret (v := .tuple #[.agg #[.string n, .slice A l.length c], .int .i64 0]) ?_ rfl ⟨n, _, l, 0, rfl, q3.rsq HRD.out.few, HNM.out, HA.out, b3⟩
    exact results_blk_tmp (ty := 28) Try.results15 _ w3 R 28 [.string n, .slice A l.length c] _ _ rfl rfl K3.out Try.underlying28 rfl size_sl
  | false =>
    have HA : Hid (SelAns t ⟨⟨#[]⟩, []⟩ 4) := Lib.hid (.inr ⟨by decide, HRD.out.no rfl⟩)
    go_wp2_with ((with_reducible refine here_store ?_); refine wpList_store_blk rfl 28 _ _ rfl R 28 [.string ⟨#[]⟩, .slice none 0 0] KR.out [.string ⟨#[]⟩, .slice none 0 0] rfl rfl rfl size_sl (by intro u hu; simp only [List.mem_cons, List.not_mem_nil, or_false] at hu; rcases hu with rfl | rfl <;> rfl) ?_; intro w3 k3 s3; (have K3 := Lib.hid k3); (have S3 := Lib.hid s3); clear k3 s3; go_frame)
    obtain ⟨b3, q3⟩ := HFin.out w3 S3.out
    refine bodyPost_ret (v := .tuple #[.agg #[.string ⟨#[]⟩, .slice none 0 0], .int .i64 4]) ?_ rfl ⟨⟨#[]⟩, _, [], 4, rfl, rsQu_none w3, Nat.zero_le _, HA.out, b3⟩
    exact results_blk_tmp (ty := 28) Try.results15 _ w3 R 28 [.string ⟨#[]⟩, .slice none 0 0] _ _ rfl rfl K3.out Try.underlying28 rfl size_sl
end Go.Proofs.Ytckgpocfcanokaa
