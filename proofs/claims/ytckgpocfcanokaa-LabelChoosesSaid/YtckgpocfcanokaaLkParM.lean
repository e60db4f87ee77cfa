/- The developers' Parse, whole. Condition: at most 100000 bytes. -/
import Derived.Test.YtckgpocfcanokaaLkPar
namespace Go.Proofs.Ytckgpocfcanokaa
open Go.RowKit

theorem rsLb_none (w : World) : RsLb w (.slice none 0 0) [] := ⟨⟨⟨none, 0, rfl, Nat.zero_le _, fun i h => by cases h⟩, fun n c e => by injection e with _ _ e; exact e.symm⟩, fun q h => (List.not_mem_nil h).elim⟩
theorem map_lbV (l : List Qu) : (l.map asL).map lbV = l.map lbV := by
  rw [List.map_map]
  rfl
theorem ser_no {t : List UInt8} {n : ByteArray} {l : List Qu} {g : Bool} (hr : RdSe t ⟨n, l⟩ g) (hn : (g && allIs l) = false ∨ ¬ MayS ⟨n, l.map asL⟩) : ¬ ∃ s, MayS s ∧ textB s = t := fun ⟨s, hs, ht⟩ => by
  cases g with
  | false => exact hr.no rfl ⟨s, hs.sel, ht⟩
  | true =>
    obtain ⟨h1, h2⟩ := hr.yes rfl
    have e : s = ⟨n, l⟩ := text_inj hs.sel h1 (by rw [ht, h2])
    subst e
    have h3 : allIs l = true := List.all_eq_true.2 fun q hq => by rw [beq_iff_eq]; exact (hs.q q hq).2
    rcases hn with h | h
    · rw [h3] at h; cases h
    · exact h (by rw [asL_of h3]; exact hs)
theorem ser_yes {t : List UInt8} {n : ByteArray} {l : List Qu} {g : Bool} (hr : RdSe t ⟨n, l⟩ g) (hg : (g && allIs l) = true) : textB ⟨n, l.map asL⟩ = t := by
  rw [Bool.and_eq_true] at hg
  rw [asL_of hg.2]
  exact (hr.yes hg.1).2
set_option maxRecDepth 100000 in
set_option maxHeartbeats 4000000 in
theorem parseL_any (t : ByteArray) (w : World) (hm : t.size ≤ 100000) :
    Calls Try.prog 10 #[.string t] w fun e w' => ∃ (n : ByteArray) (v : Value) (ls : List Qu) (k : Int), e = .returned (.tuple #[.agg #[.string n, v], .int .i64 k]) ∧ RsLb w' v ls ∧ n.size ≤ maxLen ∧ SerAns t ⟨n, ls⟩ k ∧ Below w.heap.size w w' := by
  obtain ⟨R, hR⟩ : ∃ R, R = w.heap.size := ⟨_, rfl⟩
  obtain ⟨W0, hW0⟩ : ∃ W : World, W = w.alloc (.cells #[.string ⟨#[]⟩, .slice none 0 0] 24) := ⟨_, rfl⟩
  have D0 : Hid (Below w.heap.size w W0) := Lib.hid (by rw [hW0]; exact (Below.refl _ _).alloc (Nat.le_refl _) _)
  have K0 : Hid (Blk W0 R 24 [.string ⟨#[]⟩, .slice none 0 0]) := Lib.hid (by rw [hW0, hR]; exact Blk.made w _ _)
  have HX : Hid (W0 = w.alloc (.cells #[.string ⟨#[]⟩, .slice none 0 0] 24)) := Lib.hid hW0
  have HRW := Lib.hid hR
  have C1 := Lib.hid (readL_any t W0 (by unfold maxLen; omega))
  clear hW0 hm
  go_enter Try.func10, Try.ntmps10
  go_upto_region 1 with (fail)
  rw [← hR, ← HX.out]
  clear HX hR
  go_wp2_with (fail)
  refine C1.out.mono ?_
  rintro e w1 ⟨n, v, l, g, rfl, hqa, hnm, hrd, hb1⟩
  obtain ⟨A, c, hv, _⟩ := hqa.own.form
  rw [List.length_map] at hv
  subst hv
  have HRD := Lib.hid hrd
  have HNM := Lib.hid hnm
  have HRQ := Lib.hid (hqa.rsq hrd.few)
  have D1 := Lib.hid (D0.out.trans (hb1.mono D0.out.size))
  have K1 := Lib.hid (K0.out.below hb1 K0.out.lt)
  have HGL : Hid (∀ g o, A = some ⟨g, o, none⟩ → g < w1.heap.size) := Lib.hid fun g o e => by
    subst e
    exact (hqa.own.lt g rfl).2
  have HQO := Lib.hid hqa.ok
  clear hqa hnm hrd hb1 C1 K0 D0
  go_upto_region 2 with (fail)
  obtain ⟨Y0, hY0⟩ : ∃ Y, Y = w1.heap.size := ⟨_, rfl⟩
  obtain ⟨W2, hW2⟩ : ∃ W : World, W = w1.alloc (.cells #[.string n, .slice A l.length c] 28) := ⟨_, rfl⟩
  have B2 : Hid (Below w1.heap.size w1 W2) := Lib.hid (by rw [hW2]; exact (Below.refl _ _).alloc (Nat.le_refl _) _)
  have KY : Hid (Blk W2 Y0 28 [.string n, .slice A l.length c]) := Lib.hid (by rw [hW2, hY0]; exact Blk.made w1 _ _)
  rw [← hW2, ← hY0]
  clear hW2 hY0
  have y0 : W2.cell? ⟨Y0, 0, none⟩ = some (.string n) := KY.out.cell 0
  go_upto_region 3 with (fail)
  obtain ⟨P, hP⟩ : ∃ Y, Y = W2.heap.size := ⟨_, rfl⟩
  obtain ⟨W3, hW3⟩ : ∃ W : World, W = W2.alloc (.cells #[.string n, .slice none 0 0] 24) := ⟨_, rfl⟩
  have B3 : Hid (Below W2.heap.size W2 W3) := Lib.hid (by rw [hW3]; exact (Below.refl _ _).alloc (Nat.le_refl _) _)
  have KP : Hid (Blk W3 P 24 [.string n, .slice none 0 0]) := Lib.hid (by rw [hW3, hP]; exact Blk.made W2 _ _)
  have KY3 : Hid (Blk W3 Y0 28 [.string n, .slice A l.length c]) := Lib.hid (KY.out.below B3.out KY.out.lt)
  have B13 : Hid (Below w1.heap.size w1 W3) := Lib.hid (B2.out.trans (B3.out.mono B2.out.size))
  have D3 : Hid (Below w.heap.size w W3) := Lib.hid (D1.out.trans (B13.out.mono D1.out.size))
  have KR3 : Hid (Blk W3 R 24 [.string ⟨#[]⟩, .slice none 0 0]) := Lib.hid (K1.out.below B13.out K1.out.lt)
  have HRP : Hid (R < P) := Lib.hid (by have := K1.out.lt; have := B2.out.size; omega)
  have HLW : Hid (∀ g o, A = some ⟨g, o, none⟩ → 0 < l.length → g < P) := Lib.hid fun g o e _ => by have := HGL.out g o e; have := B2.out.size; omega
  have HRQ3 := Lib.hid (HRQ.out.below B13.out)
  have H0 : Hid (∃ v, PxS W3 P n [] v W3) := Lib.hid ⟨_, KP.out, OwnR.nil 2 W3 (P + 1) 39, Below.refl _ _⟩
  have HWP : Hid (w.heap.size ≤ P) := Lib.hid (by have := HRP.out; have := HRW.out; omega)
  rw [← hW3, ← hP]
  clear hW3 hP y0 HRQ HGL B2 B3 B13 K1 D1 KY KP
  have y1 : W3.cell? ⟨Y0, 1, none⟩ = some (.slice A l.length c) := KY3.out.cell 1
  go_wp2_with (fail)
  refine lka_loop _ _ _ _ _ _ _ _ _ _ _ _ _ _ _ _ _ _ _ _ _ _ _ _ _ _ _ _ _ _ _ _ _ _ _ _ _ _ _ _ _ _ _ _ _ W3 A c P n g l W3 HRQ3 HLW (Lib.hid HRD.out.few) H0 (Lib.hid ?_)
  intro u8 u21 u22 u23 u24 u25 u26 u27 u28 u29 u30 u31 u32 u33 u34 u35 u36 u37 u38 u39 u40 y v4 w4 HT
  have D4 : Hid (Below w.heap.size w w4) := Lib.hid (D3.out.trans (HT.out.old.mono HWP.out))
  have KR : Hid (Blk w4 R 24 [.string ⟨#[]⟩, .slice none 0 0]) := Lib.hid (KR3.out.below HT.out.old HRP.out)
  have HRL : Hid (RsLb w4 v4 (l.map asL)) := Lib.hid ⟨by rw [map_lbV]; exact ownR_rsE HT.out.own (by rw [List.length_map]; have := HRD.out.few; simp only at this; unfold maxLen; omega), fun q hq => by
    obtain ⟨p, hp, rfl⟩ := List.mem_map.1 hq
    have h1 := qok_wf (HQO.out p hp)
    exact ⟨h1.1, h1.2.1, rfl⟩⟩
  have HFin : Hid (∀ V V', Below w.heap.size w V → Sole V V' R → Below w.heap.size w V') := Lib.hid fun V V' hb hs => by
    have hc : Chg (fun k => k = R) V V' := ⟨hs.below.os, hs.below.tape, hs.below.output, Nat.le_of_eq hs.size.symm, fun k _ hk => hs.other k hk⟩
    have hR := HRW.out
    exact hb.trans (hc.below (fun k e => by omega) hb.size)
  obtain ⟨A4, c4, hv4, _⟩ := HT.out.own.form
  rw [List.length_map] at hv4
  subst hv4
  have p0 : w4.cell? ⟨P, 0, none⟩ = some (.string n) := HT.out.blk.cell 0
  have p1 : w4.cell? ⟨P, 1, none⟩ = some (.slice A4 l.length c4) := HT.out.blk.cell 1
  obtain ⟨gg, hgg⟩ : ∃ gg, (g && allIs l) = gg := ⟨_, rfl⟩
  have HGG := Lib.hid hgg
  rw [hgg]
  clear hgg y1
  cases gg with
  | false =>
    have HA : Hid (SerAns t ⟨⟨#[]⟩, []⟩ 4) := Lib.hid (.inr ⟨by decide, ser_no HRD.out (.inl HGG.out)⟩)
    clear p0 p1
    go_wp2_with ((with_reducible refine here_store ?_); refine wpList_store_blk rfl 24 _ _ rfl R 24 [.string ⟨#[]⟩, .slice none 0 0] KR.out [.string ⟨#[]⟩, .slice none 0 0] rfl rfl rfl size_sr (by intro u hu; simp only [List.mem_cons, List.not_mem_nil, or_false] at hu; rcases hu with rfl | rfl <;> rfl) ?_; intro w9 k9 s9; (have K9 := Lib.hid k9); (have S9 := Lib.hid s9); clear k9 s9; go_frame)
    have b9 := HFin.out _ w9 D4.out S9.out
    refine bodyPost_ret (v := .tuple #[.agg #[.string ⟨#[]⟩, .slice none 0 0], .int .i64 4]) ?_ rfl ⟨⟨#[]⟩, _, [], 4, rfl, rsLb_none w9, Nat.zero_le _, HA.out, b9⟩
    exact results_blk_tmp (ty := 24) Try.results10 _ w9 R 24 [.string ⟨#[]⟩, .slice none 0 0] _ _ rfl rfl K9.out Try.underlying24 rfl size_sr
  | true =>
    have C5 := Lib.hid (checkK_any n _ (l.map asL) w4 HRL.out HNM.out)
    go_wp2_with (fail)
    refine C5.out.mono ?_
    rintro e w5 ⟨k, rfl, hk, hb5⟩
    have D5 := Lib.hid (D4.out.trans (hb5.mono D4.out.size))
    have KR5 := Lib.hid (KR.out.below hb5 KR.out.lt)
    have HP5 := Lib.hid (HT.out.blk.below hb5 HT.out.blk.lt)
    have Q5 : Hid (PxS W3 P n (l.map lbV) (.slice A4 l.length c4) w5) := Lib.hid (HT.out.bel hb5)
    clear hb5 C5 p0 p1
    rcases hk with ⟨rfl, hmay⟩ | ⟨rfl, hmay⟩
    · have HA : Hid (SerAns t ⟨n, l.map asL⟩ 0) := Lib.hid (.inl ⟨rfl, hmay, ser_yes HRD.out HGG.out⟩)
      have HRL9 : Hid (∀ V', Sole w5 V' R → RsLb V' (.slice A4 l.length c4) (l.map asL)) := Lib.hid fun V' hs => by
        have hc : Chg (fun k => k = R) w5 V' := ⟨hs.below.os, hs.below.tape, hs.below.output, Nat.le_of_eq hs.size.symm, fun k _ hk => hs.other k hk⟩
        have h1 := HRP.out
        refine ⟨?_, HRL.out.ok⟩
        rw [map_lbV]
        refine ownR_rsE (hc.ownR Q5.out.own fun k hk e => by have := (Q5.out.own.lt k hk).1; omega) (by rw [List.length_map]; have := HRD.out.few; simp only at this; unfold maxLen; omega)
      have p0 : w5.cell? ⟨P, 0, none⟩ = some (.string n) := HP5.out.cell 0
      have p1 : w5.cell? ⟨P, 1, none⟩ = some (.slice A4 l.length c4) := HP5.out.cell 1
      clear hmay
      go_wp2_with ((with_reducible refine here_store ?_); refine wpList_store_blk rfl 24 _ _ rfl R 24 [.string ⟨#[]⟩, .slice none 0 0] KR5.out [.string n, .slice A4 l.length c4] rfl rfl rfl size_sr (by intro u hu; simp only [List.mem_cons, List.not_mem_nil, or_false] at hu; rcases hu with rfl | rfl <;> rfl) ?_; intro w9 k9 s9; (have K9 := Lib.hid k9); (have S9 := Lib.hid s9); clear k9 s9; go_frame)
      have b9 := HFin.out _ w9 D5.out S9.out
      refine bodyPost_ret (v := .tuple #[.agg #[.string n, .slice A4 l.length c4], .int .i64 0]) ?_ rfl ⟨n, _, l.map asL, 0, rfl, HRL9.out w9 S9.out, HNM.out, HA.out, b9⟩
      exact results_blk_tmp (ty := 24) Try.results10 _ w9 R 24 [.string n, .slice A4 l.length c4] _ _ rfl rfl K9.out Try.underlying24 rfl size_sr
    · have HA : Hid (SerAns t ⟨⟨#[]⟩, []⟩ 4) := Lib.hid (.inr ⟨by decide, ser_no HRD.out (.inr hmay)⟩)
      clear hmay
      go_wp2_with ((with_reducible refine here_store ?_); refine wpList_store_blk rfl 24 _ _ rfl R 24 [.string ⟨#[]⟩, .slice none 0 0] KR5.out [.string ⟨#[]⟩, .slice none 0 0] rfl rfl rfl size_sr (by intro u hu; simp only [List.mem_cons, List.not_mem_nil, or_false] at hu; rcases hu with rfl | rfl <;> rfl) ?_; intro w9 k9 s9; (have K9 := Lib.hid k9); (have S9 := Lib.hid s9); clear k9 s9; go_frame)
      have b9 := HFin.out _ w9 D5.out S9.out
      refine bodyPost_ret (v := .tuple #[.agg #[.string ⟨#[]⟩, .slice none 0 0], .int .i64 4]) ?_ rfl ⟨⟨#[]⟩, _, [], 4, rfl, rsLb_none w9, Nat.zero_le _, HA.out, b9⟩
      exact results_blk_tmp (ty := 24) Try.results10 _ w9 R 24 [.string ⟨#[]⟩, .slice none 0 0] _ _ rfl rfl K9.out Try.underlying24 rfl size_sr
end Go.Proofs.Ytckgpocfcanokaa
