/- The developers' Text, of series that may be. No condition of its own. -/
import Derived.Test.YtckgpocfcanokaaLbTxt
import Derived.Test.YtckgpocfcanokaaLkPrt
namespace Go.Proofs.Ytckgpocfcanokaa
open Go.RowKit

theorem TxS.bel {w1 V W : World} {Y : Nat} {n : ByteArray} {R : List (List Value)} {v : Value} (h : TxS w1 Y n R v V) (hb : Below V.heap.size V W) : TxS w1 Y n R v W :=
  ⟨h.blk.below hb h.blk.lt, ⟨h.own.1, h.own.2.kept (row := none) ⟨hb.os, hb.tape, hb.output, hb.size, fun k hk _ => hb.block k hk⟩ (by
    cases v.ownBlock with
    | none => exact .inl rfl
    | some k => exact .inr fun e => by cases e)⟩, h.old.trans (hb.mono (Nat.le_of_lt h.blk.lt))⟩
noncomputable def body_lkt : Code := (((Try.f9.body.map loopsOf).getD [])[0]?).getD .skip
set_option maxRecDepth 100000 in
set_option maxHeartbeats 4000000 in
theorem lkt_loop (c0 c1 c2 c4 c5 c6 c7 c8 c9 c13 c14 c15 c16 c17 c18 c19 c20 c21 c22 c23 c24 c25 c26 c27 c28 : Value) (w1 : World) (A : Option Addr) (c Y : Nat) (n : ByteArray) (ls : List Qu) (w : World) (hr : Hid (RsLb w1 (.slice A ls.length c) ls)) (hlow : Hid (∀ g o, A = some ⟨g, o, none⟩ → 0 < ls.length → g < Y)) (hn : Hid (ls.length ≤ 8)) (h0 : Hid (∃ v, TxS w1 Y n [] v w)) {Q : Exit → Act → World → Prop}
    (HQ : Hid (∀ (u5 u13 u14 u15 u16 u17 u18 u19 u20 u21 u22 u23 u24 u25 u26 y v : Value) (w' : World), Hid (TxS w1 Y n (ls.map asQ) v w') → Q (.exit 0) ⟨List.toArray (c0 :: c1 :: c2 :: (.pointer (some ⟨Y, 0, none⟩)) :: c4 :: u5 :: c6 :: c7 :: c8 :: c9 :: (.slice A ls.length c) :: (.int .i64 (ls.length : Int)) :: y :: u13 :: u14 :: u15 :: u16 :: u17 :: u18 :: u19 :: u20 :: u21 :: u22 :: u23 :: u24 :: u25 :: u26 :: c27 :: c28 :: []), []⟩ w')) :
    (Code.loop body_lkt).wp Try.prog Q ⟨List.toArray (c0 :: c1 :: c2 :: (.pointer (some ⟨Y, 0, none⟩)) :: c4 :: c5 :: c6 :: c7 :: c8 :: c9 :: (.slice A ls.length c) :: (.int .i64 (ls.length : Int)) :: (.int .i64 0) :: c13 :: c14 :: c15 :: c16 :: c17 :: c18 :: c19 :: c20 :: c21 :: c22 :: c23 :: c24 :: c25 :: c26 :: c27 :: c28 :: []), []⟩ w := by
  obtain ⟨iq, hiq, hiqz, hiqs, hiqb⟩ := inf_of info_qu
  unfold body_lkt
  conv => arg 2; arg 1; whnf
  go_loopw [12] (fun y wx => ∃ (j : Nat) (v : Value), y = .int .i64 (j : Int) ∧ j ≤ ls.length ∧ TxS w1 Y n ((ls.take j).map asQ) v wx) (fun y _ => ls.length - (intOf y).toNat)
  case atStart =>
    obtain ⟨v, hv⟩ := h0.out
    exact ⟨0, v, rfl, Nat.zero_le _, hv⟩
  case round =>
    obtain ⟨j, v, rfl, hj, htx⟩ := hrel
    have hl := hn.out
    have pI : (ls.length : Int) ≤ 8 := by omega
    by_cases hlt : j < ls.length
    · have jI : (j : Int) < ls.length := by omega
      have HLT := Lib.hid hlt
      obtain ⟨q, hq⟩ : ∃ q, ls[j]? = some q := ⟨_, List.getElem?_eq_getElem hlt⟩
      obtain ⟨g, o, rfl⟩ := hr.out.addr hq
      have hgY := hlow.out g o rfl (by omega)
      obtain ⟨_, q0, q1⟩ := hr.out.cells hq
      obtain ⟨s, g0, u⟩ := q
      simp only at q0 q1
      have b0 : wr.cell? ⟨g, o + j * 2, none⟩ = some (.string s) := by rw [htx.old.cell (p := ⟨g, o + j * 2, none⟩) hgY]; exact q0
      have b1 : wr.cell? ⟨g, o + j * 2 + 1, none⟩ = some (.string u) := by rw [htx.old.cell (p := ⟨g, o + j * 2 + 1, none⟩) hgY]; exact q1
      obtain ⟨R, hR⟩ : ∃ R, R = (ls.take j).map asQ := ⟨_, rfl⟩
      have HRL : Hid (R.length = j) := Lib.hid (by rw [hR, List.length_map, List.length_take]; omega)
      have HR1 : Hid ((ls.take (j + 1)).map asQ = R ++ [[.string s, .int .i64 0, .string u]]) := Lib.hid (by
        obtain ⟨hj2, e2⟩ := List.getElem?_eq_some_iff.1 hq
        rw [hR, List.take_succ_eq_append_getElem hj2, e2, List.map_append]
        rfl)
      rw [← hR] at htx
      have HN1 : Hid (R.length + 1 ≤ maxLen) := Lib.hid (by rw [HRL.out]; unfold maxLen; omega)
      have HN2 : Hid ((R.length + 1) * 40 ≤ 140737488355328) := Lib.hid (by rw [HRL.out]; omega)
      obtain ⟨A0, c0', hv0, _⟩ := htx.own.form
      have HTX := Lib.hid htx
      clear hR hq q0 q1 hgY hl hj hlt htx
      go_upto_region 5 with (fail)
      obtain ⟨D, hD⟩ : ∃ D, D = wr.heap.size := ⟨_, rfl⟩
      obtain ⟨W1, hW1⟩ : ∃ W : World, W = wr.alloc (.cells #[.string s, .string u] 39) := ⟨_, rfl⟩
      have T1 : Hid (TxS w1 Y n R v W1) := Lib.hid (HTX.out.bel (by rw [hW1]; exact (Below.refl _ _).alloc (Nat.le_refl _) _))
      have KD : Hid (Blk W1 D 39 [.string s, .string u]) := Lib.hid (by rw [hW1, hD]; exact Blk.made _ _ _)
      rw [← hW1, ← hD]
      clear hW1 hD b0 b1 HTX
      have d0 : W1.cell? ⟨D, 0, none⟩ = some (.string s) := KD.out.cell 0
      have d1 : W1.cell? ⟨D, 1, none⟩ = some (.string u) := KD.out.cell 1
      subst hv0
      have y1 : W1.cell? ⟨Y, 1, none⟩ = some (.slice A0 R.length c0') := T1.out.blk.cell 1
      have HBS : Hid (Y + 1 ≤ W1.heap.size) := Lib.hid T1.out.blk.lt
      go_upto_region 6 with (at_builtin; (refine wpList_append_elR _ [.string s, .int .i64 0, .string u] 41 rfl (.tmp 17) (.tmp 23) _ rfl (Y + 1) 41 iq _ 3 40 Try.underlying26 hiq hiqz hiqs hiqb rfl (by decide) _ R rfl T1.out.own rfl (by intro u hu; simp only [List.mem_cons, List.not_mem_nil, or_false] at hu; rcases hu with rfl | rfl | rfl <;> rfl) rfl HN1.out HN2.out HBS.out ?_); intro v2 w2 own2 nx2; obtain ⟨A2, c2', hv2, _⟩ := own2.form; rw [List.length_append, List.length_singleton] at hv2; subst hv2; (have HT2 := Lib.hid (T1.out.next own2 nx2)); (have y3 : w2.cell? ⟨Y, 1, none⟩ = some (.slice A0 R.length c0') := by rw [nx2.below.cell (p := ⟨Y, 1, none⟩) (Nat.lt_succ_self _)]; exact y1); (have f3 : w2.frozen? ⟨Y, 1, none⟩ = false := (T1.out.blk.below nx2.below (Nat.lt_succ_self _)).free 1); clear own2 nx2 y1 d0 d1)
      have h5 := HT2.out
      rw [← HR1.out] at h5
      have H5 := Lib.hid h5
      clear h5
      go_wp2_with (fail)
      have hlt := HLT.out
      refine ⟨⟨j + 1, _, by go_num, hlt, H5.out⟩, by simp [intOf]; omega⟩
    · have k1 : decide ((j : Int) < ls.length) = false := decide_eq_false (by omega)
      have k2 : decide (j < ls.length) = false := decide_eq_false hlt
      have HF : Hid (TxS w1 Y n (ls.map asQ) v wr) := Lib.hid (by
        have e : (ls.take j).map asQ = ls.map asQ := by rw [List.take_of_length_le (by omega)]
        rw [← e]
        exact htx)
      clear hl hj hlt htx
      go_wp2_with (fail)
      exact HQ.out _ _ _ _ _ _ _ _ _ _ _ _ _ _ _ _ _ _ HF
set_option maxRecDepth 100000 in
set_option maxHeartbeats 4000000 in
theorem textL_any (n : ByteArray) (v : Value) (ls : List Qu) (w : World) (h : RsLb w v ls) (hm : MayS ⟨n, ls⟩) :
    Calls Try.prog 9 #[.agg #[.string n, v]] w fun e w' => ∃ b : ByteArray, e = .returned (.string b) ∧ b.toList = textB ⟨n, ls⟩ ∧ Below w.heap.size w w' := by
  obtain ⟨A, c, rfl, _⟩ := h.form
  obtain ⟨X, hX⟩ : ∃ X, X = w.heap.size := ⟨_, rfl⟩
  obtain ⟨W0, hW0⟩ : ∃ W : World, W = w.alloc (.cells #[.string n, .slice A ls.length c] 24) := ⟨_, rfl⟩
  have D0 : Hid (Below w.heap.size w W0) := Lib.hid (by rw [hW0]; exact (Below.refl _ _).alloc (Nat.le_refl _) _)
  have X1 : Hid (Blk W0 X 24 [.string n, .slice A ls.length c]) := Lib.hid (by rw [hW0, hX]; exact Blk.made w _ _)
  have S0 : Hid (W0.heap.size = w.heap.size + 1) := Lib.hid (by rw [hW0]; simp)
  have p0 : W0.cell? ⟨X, 0, none⟩ = some (.string n) := X1.out.cell 0
  have HX : Hid (W0 = w.alloc (.cells #[.string n, .slice A ls.length c] 24)) := Lib.hid hW0
  have HXW := Lib.hid hX
  have HR0 := Lib.hid h
  have HM := Lib.hid hm
  clear hW0 h hm
  go_enter Try.func9, Try.ntmps9
  go_upto_region 1 with (fail)
  rw [← HX.out, ← hX]
  clear HX hX
  go_upto_region 2 with (fail)
  obtain ⟨Y, hY⟩ : ∃ Y, Y = W0.heap.size := ⟨_, rfl⟩
  obtain ⟨W1, hW1⟩ : ∃ W : World, W = W0.alloc (.cells #[.string n, .slice none 0 0] 28) := ⟨_, rfl⟩
  have B01 : Hid (Below W0.heap.size W0 W1) := Lib.hid (by rw [hW1]; exact (Below.refl _ _).alloc (Nat.le_refl _) _)
  have D1 : Hid (Below w.heap.size w W1) := Lib.hid (D0.out.trans (B01.out.mono D0.out.size))
  have X2 : Hid (Blk W1 Y 28 [.string n, .slice none 0 0]) := Lib.hid (by rw [hW1, hY]; exact Blk.made W0 _ _)
  have X12 : Hid (Blk W1 X 24 [.string n, .slice A ls.length c]) := Lib.hid (X1.out.below B01.out X1.out.lt)
  have R1 := Lib.hid (HR0.out.below D1.out)
  have HXY : Hid (w.heap.size < Y) := Lib.hid (by rw [hY, S0.out]; omega)
  have HLW : Hid (∀ g o, A = some ⟨g, o, none⟩ → 0 < ls.length → g < Y) := Lib.hid fun g o e hl => by
    have h1 := HXY.out
    obtain ⟨q, hq⟩ : ∃ q, ls[0]? = some q := ⟨_, List.getElem?_eq_getElem hl⟩
    obtain ⟨g', o', h2, h3, _⟩ := HR0.out.row.at' (i := 0) (r := lbV q) (by rw [List.getElem?_map, hq]; rfl)
    rw [e] at h2
    injection h2 with h2
    injection h2 with h2 _ _
    omega
  have H0 : Hid (∃ v, TxS W1 Y n [] v W1) := Lib.hid ⟨_, X2.out, OwnR.nil 3 W1 (Y + 1) 41, Below.refl _ _⟩
  rw [← hW1, ← hY]
  clear hW1 hY p0
  have p1 : W1.cell? ⟨X, 1, none⟩ = some (.slice A ls.length c) := X12.out.cell 1
  go_wp2_with (fail)
  refine lkt_loop _ _ _ _ _ _ _ _ _ _ _ _ _ _ _ _ _ _ _ _ _ _ _ _ _ W1 A c Y n ls W1 R1 HLW (Lib.hid HM.out.few) H0 (Lib.hid ?_)
  intro u5 u13 u14 u15 u16 u17 u18 u19 u20 u21 u22 u23 u24 u25 u26 y v w2 HT
  have B2 : Hid (Below w.heap.size w w2) := Lib.hid (D1.out.trans (HT.out.old.mono (Nat.le_of_lt HXY.out)))
  have t0 : w2.cell? ⟨Y, 0, none⟩ = some (.string n) := HT.out.blk.cell 0
  have t1 : w2.cell? ⟨Y, 1, none⟩ = some v := HT.out.blk.cell 1
  have HG : Hid (∀ q ∈ ls, q.g = 0) := Lib.hid fun q hq => (HM.out.q q hq).2
  have HR : Hid (RsQu w2 v ls) := Lib.hid ⟨by
    have e : ls.map quV = ls.map asQ := List.map_congr_left fun q hq => by unfold quV asQ; rw [HG.out q hq]
    rw [e]
    exact ownR_rsE HT.out.own (by rw [List.length_map]; have := HM.out.few; simp only at this; unfold maxLen; omega), fun q hq => by
    have h1 := R1.out.ok q hq
    exact ⟨h1.1, h1.2.1, by rw [HG.out q hq]; decide⟩⟩
  have HC := Lib.hid (print_any n v ls w2 HR.out ⟨(qok_small (q := ⟨n, 0, n⟩) ⟨HM.out.n, HM.out.n, .inl rfl⟩).1, HM.out.few, fun q hq => (HM.out.q q hq).1⟩)
  obtain ⟨A2, c2, rfl, _⟩ := HR.out.form
  clear p1
  go_wp2_with (fail)
  refine HC.out.mono ?_
  rintro e w3 ⟨b, rfl, hb, hb3⟩
  have B3 := Lib.hid (B2.out.trans (hb3.mono B2.out.size))
  have HB := Lib.hid hb
  clear hb hb3
  go_wp2_with (fail)
  go_ret
  exact ⟨b, rfl, HB.out, B3.out⟩
end Go.Proofs.Ytckgpocfcanokaa
