/- The fifteenth reference's Text, of series that may be. No condition of its own. -/
import Derived.Test.YtckgpocfcanokaaLbTxt
import Derived.Test.YtckgpocfcanokaaLbPrt
namespace Go.Proofs.Ytckgpocfcanokaa
open Go.RowKit

set_option maxRecDepth 100000 in
set_option maxHeartbeats 4000000 in
theorem refText_any (n : ByteArray) (v : Value) (ls : List Qu) (w : World) (h : RsLb w v ls) (hm : MayS ⟨n, ls⟩) :
    Calls Try.prog 11 #[.agg #[.string n, v]] w fun e w' => ∃ b : ByteArray, e = .returned (.string b) ∧ b.toList = textB ⟨n, ls⟩ ∧ Below w.heap.size w w' := by
  obtain ⟨A, c, rfl, _⟩ := h.form
  obtain ⟨W0, hW0⟩ : ∃ W : World, W = w.alloc (.cells #[.string n, .slice A ls.length c] 24) := ⟨_, rfl⟩
  have D0 : Hid (Below w.heap.size w W0) := Lib.hid (by rw [hW0]; exact (Below.refl _ _).alloc (Nat.le_refl _) _)
  have X1 : Hid (Blk W0 w.heap.size 24 [.string n, .slice A ls.length c]) := Lib.hid (by rw [hW0]; exact Blk.made w _ _)
  have S0 : Hid (W0.heap.size = w.heap.size + 1) := Lib.hid (by rw [hW0]; simp)
  have p0 : W0.cell? ⟨w.heap.size, 0, none⟩ = some (.string n) := by rw [X1.out.cell]; rfl
  have HX : Hid (W0 = w.alloc (.cells #[.string n, .slice A ls.length c] 24)) := Lib.hid hW0
  go_enter Try.func11, Try.ntmps11
  go_upto_region 1 with (fail)
  rw [← HX.out]
  clear HX hW0
  go_upto_region 2 with (fail)
  obtain ⟨Y, hY⟩ : ∃ Y, Y = W0.heap.size := ⟨_, rfl⟩
  obtain ⟨W1, hW1⟩ : ∃ W : World, W = W0.alloc (.cells #[.string n, .slice none 0 0] 28) := ⟨_, rfl⟩
  have B01 : Hid (Below W0.heap.size W0 W1) := Lib.hid (by rw [hW1]; exact (Below.refl _ _).alloc (Nat.le_refl _) _)
  have D1 : Hid (Below w.heap.size w W1) := Lib.hid (D0.out.trans (B01.out.mono D0.out.size))
  have X2 : Hid (Blk W1 Y 28 [.string n, .slice none 0 0]) := Lib.hid (by rw [hW1, hY]; exact Blk.made W0 _ _)
  have X12 : Hid (Blk W1 w.heap.size 24 [.string n, .slice A ls.length c]) := Lib.hid (X1.out.below B01.out X1.out.lt)
  have R1 := Lib.hid (h.below D1.out)
  have HXY : Hid (w.heap.size < Y) := Lib.hid (by rw [hY, S0.out]; omega)
  have HLW : Hid (∀ g o, A = some ⟨g, o, none⟩ → 0 < ls.length → g < Y) := Lib.hid fun g o e hl => by
    have h1 := HXY.out
    obtain ⟨q, hq⟩ : ∃ q, ls[0]? = some q := ⟨_, List.getElem?_eq_getElem hl⟩
    obtain ⟨g', o', h2, h3, _⟩ := h.row.at' (i := 0) (r := lbV q) (by rw [List.getElem?_map, hq]; rfl)
    rw [e] at h2
    injection h2 with h2
    injection h2 with h2 _ _
    omega
  have HM := Lib.hid hm
  have H0 : Hid (∃ v, TxS W1 Y n [] v W1) := Lib.hid ⟨_, X2.out, OwnR.nil 3 W1 (Y + 1) 41, Below.refl _ _⟩
  rw [← hW1, ← hY]
  clear hW1 hY h hm p0
  go_wp2_with (fail)
  refine ltx_loop _ _ _ _ _ _ _ _ _ _ _ _ _ _ _ _ _ _ _ _ _ _ _ _ _ _ _ _ _ _ _ _ W1 A c w.heap.size Y n ls W1 HXY X12 R1 HLW (Lib.hid HM.out.few) H0 (Lib.hid ?_)
  intro u8 u9 u10 u11 u12 u13 u14 u15 u16 u17 u18 u19 u20 u21 u22 u23 u24 u25 u26 u27 u28 u29 u30 u31 u32 y v w2 HT
  have B2 : Hid (Below w.heap.size w w2) := Lib.hid (D1.out.trans (HT.out.old.mono (Nat.le_of_lt HXY.out)))
  have t0 : w2.cell? ⟨Y, 0, none⟩ = some (.string n) := by rw [HT.out.blk.cell]; rfl
  have t1 : w2.cell? ⟨Y, 1, none⟩ = some v := by rw [HT.out.blk.cell]; rfl
  have HG : Hid (∀ q ∈ ls, q.g = 0) := Lib.hid fun q hq => (HM.out.q q hq).2
  have HR : Hid (RsQu w2 v ls) := Lib.hid ⟨by
    have e : ls.map quV = ls.map asQ := List.map_congr_left fun q hq => by unfold quV asQ; rw [HG.out q hq]
    rw [e]
    exact ownR_rsE HT.out.own (by rw [List.length_map]; have := HM.out.few; simp only at this; unfold maxLen; omega), fun q hq => by
    have h1 := R1.out.ok q hq
    exact ⟨h1.1, h1.2.1, by rw [HG.out q hq]; decide⟩⟩
  have HC := Lib.hid (refPrint0_any n v ls w2 HR.out ⟨word_size HM.out.n, HM.out.few, fun q hq => ⟨word_size (HM.out.q q hq).1.n, word_size (HM.out.q q hq).1.v⟩⟩ HG.out)
  obtain ⟨A2, c2, rfl, _⟩ := HR.out.form
  go_wp2_with (fail)
  refine HC.out.mono ?_
  rintro e w3 ⟨b, rfl, hb, hb3⟩
  have B3 := Lib.hid (B2.out.trans (hb3.mono B2.out.size))
  have HB := Lib.hid hb
  clear hb hb3
  go_wp2_with (fail)
  go_ret
  exact ⟨b, rfl, HB.out, B3.out⟩
end Go.Proofs.Ytckgpocfcanokaa
