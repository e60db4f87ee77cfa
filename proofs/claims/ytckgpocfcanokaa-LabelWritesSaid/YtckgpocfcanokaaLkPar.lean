/- The developers' Parse. Condition: at most 100000 bytes. -/
import Derived.Test.YtckgpocfcanokaaLkSel
import Derived.Test.YtckgpocfcanokaaLkChk
import Derived.Test.YtckgpocfcanokaaLkTxt
namespace Go.Proofs.Ytckgpocfcanokaa
open Go.RowKit

theorem info_lb : (Try.prog.info? 39).map (fun i => (i.zero, i.size, i.bytes)) = some (some (.agg #[.string ByteArray.empty, .string ByteArray.empty]), 2, 32) := by kernel_rfl
theorem size_sr : (Try.prog.info? 24).map (·.size) = some 2 := by kernel_rfl
def allIs (l : List Qu) : Bool := l.all fun q => q.g == 0
def asL (q : Qu) : Qu := ⟨q.n, 0, q.v⟩
theorem asL_of {l : List Qu} (h : allIs l = true) : l.map asL = l := by
  unfold allIs at h
  rw [List.all_eq_true] at h
  conv => rhs; rw [← List.map_id l]
  refine List.map_congr_left fun q hq => ?_
  have h1 := h q hq
  rw [beq_iff_eq] at h1
  obtain ⟨n, g, v⟩ := q
  simp only at h1
  rw [h1]
  rfl
theorem allIs_next {l : List Qu} {j : Nat} {q : Qu} (hq : l[j]? = some q) : allIs (l.take (j + 1)) = (allIs (l.take j) && (q.g == 0)) := by
  obtain ⟨hj, e⟩ := List.getElem?_eq_some_iff.1 hq
  unfold allIs
  rw [List.take_succ_eq_append_getElem hj, e, List.all_append]
  simp
/-- The series under way: its block, its row. -/
structure PxS (w1 : World) (Y : Nat) (n : ByteArray) (R : List (List Value)) (v : Value) (V : World) : Prop where
  blk : Blk V Y 24 [.string n, v]
  own : OwnR 2 V (Y + 1) 39 v R
  old : Below Y w1 V
theorem PxS.next {w1 V W : World} {Y : Nat} {n : ByteArray} {R : List (List Value)} {v v' : Value} {l : List Value} (h : PxS w1 Y n R v V) (ho : OwnR 2 W (Y + 1) 39 v' (R ++ [l])) (hn : Next V W (Y + 1) v v') : PxS w1 Y n (R ++ [l]) v' (W.setCell ⟨Y, 1, none⟩ v') := by
  have h1 : Blk W Y 24 [.string n, v] := by
    have h2 := h.blk
    unfold Blk at h2 ⊢
    rw [hn.below.block Y (by omega)]
    exact h2
  refine ⟨h1.set 1 v', (Chg.setCell (fun k => k = Y) W Y 1 v' rfl).ownR ho fun k hk e => ?_, ?_⟩
  · have := (ho.lt k hk).1
    omega
  · exact (h.old.trans (hn.below.mono (by omega))).setCell (p := ⟨Y, 1, none⟩) (Nat.le_refl _) _
theorem PxS.bel {w1 V W : World} {Y : Nat} {n : ByteArray} {R : List (List Value)} {v : Value} (h : PxS w1 Y n R v V) (hb : Below V.heap.size V W) : PxS w1 Y n R v W :=
  ⟨h.blk.below hb h.blk.lt, ownR_belK h.own hb, h.old.trans (hb.mono (Nat.le_of_lt h.blk.lt))⟩
noncomputable def body_lka : Code := (((Try.f10.body.map loopsOf).getD [])[0]?).getD .skip
set_option maxRecDepth 100000 in
set_option maxHeartbeats 4000000 in
theorem lka_loop (c0 c1 c2 c3 c4 c7 c8 c9 c10 c11 c12 c13 c14 c15 c16 c17 c21 c22 c23 c24 c25 c26 c27 c28 c29 c30 c31 c32 c33 c34 c35 c36 c37 c38 c39 c40 c41 c42 c43 c44 c45 c46 c47 c48 c49 : Value) (w1 : World) (A : Option Addr) (c Y : Nat) (n : ByteArray) (g1 : Bool) (ls : List Qu) (w : World) (hr : Hid (RsQu w1 (.slice A ls.length c) ls)) (hlow : Hid (∀ g o, A = some ⟨g, o, none⟩ → 0 < ls.length → g < Y)) (hn : Hid (ls.length ≤ 8)) (h0 : Hid (∃ v, PxS w1 Y n [] v w)) {Q : Exit → Act → World → Prop}
    (HQ : Hid (∀ (u8 u21 u22 u23 u24 u25 u26 u27 u28 u29 u30 u31 u32 u33 u34 u35 u36 u37 u38 u39 u40 y v : Value) (w' : World), Hid (PxS w1 Y n (ls.map lbV) v w') → Q (.exit 0) ⟨List.toArray (c0 :: c1 :: c2 :: c3 :: c4 :: (.bool (g1 && allIs ls)) :: (.pointer (some ⟨Y, 0, none⟩)) :: c7 :: u8 :: c9 :: c10 :: c11 :: c12 :: c13 :: c14 :: c15 :: c16 :: c17 :: (.slice A ls.length c) :: (.int .i64 (ls.length : Int)) :: y :: u21 :: u22 :: u23 :: u24 :: u25 :: u26 :: u27 :: u28 :: u29 :: u30 :: u31 :: u32 :: u33 :: u34 :: u35 :: u36 :: u37 :: u38 :: u39 :: u40 :: c41 :: c42 :: c43 :: c44 :: c45 :: c46 :: c47 :: c48 :: c49 :: []), []⟩ w')) :
    (Code.loop body_lka).wp Try.prog Q ⟨List.toArray (c0 :: c1 :: c2 :: c3 :: c4 :: (.bool g1) :: (.pointer (some ⟨Y, 0, none⟩)) :: c7 :: c8 :: c9 :: c10 :: c11 :: c12 :: c13 :: c14 :: c15 :: c16 :: c17 :: (.slice A ls.length c) :: (.int .i64 (ls.length : Int)) :: (.int .i64 0) :: c21 :: c22 :: c23 :: c24 :: c25 :: c26 :: c27 :: c28 :: c29 :: c30 :: c31 :: c32 :: c33 :: c34 :: c35 :: c36 :: c37 :: c38 :: c39 :: c40 :: c41 :: c42 :: c43 :: c44 :: c45 :: c46 :: c47 :: c48 :: c49 :: []), []⟩ w := by
  obtain ⟨iq, hiq, hiqz, hiqs, hiqb⟩ := inf_of info_lb
  unfold body_lka
  conv => arg 2; arg 1; whnf
  go_loopw [5, 20] (fun x y wx => ∃ (j : Nat) (v : Value), x = .bool (g1 && allIs (ls.take j)) ∧ y = .int .i64 (j : Int) ∧ j ≤ ls.length ∧ PxS w1 Y n ((ls.take j).map lbV) v wx) (fun _ y _ => ls.length - (intOf y).toNat)
  case atStart =>
    obtain ⟨v, hv⟩ := h0.out
    exact ⟨0, v, by rw [List.take_zero]; simp [allIs], rfl, Nat.zero_le _, hv⟩
  case round =>
    obtain ⟨j, v, rfl, rfl, hj, htx⟩ := hrel
    have hl := hn.out
    have pI : (ls.length : Int) ≤ 8 := by omega
    by_cases hlt : j < ls.length
    · have jI : (j : Int) < ls.length := by omega
      have HLT := Lib.hid hlt
      obtain ⟨q, hq⟩ : ∃ q, ls[j]? = some q := ⟨_, List.getElem?_eq_getElem hlt⟩
      obtain ⟨g, o, rfl⟩ := hr.out.addr hq
      have hgY := hlow.out g o rfl (by omega)
      obtain ⟨_, q0, q1, q2⟩ := hr.out.cells hq
      have HNA := Lib.hid (allIs_next hq)
      obtain ⟨R, hR⟩ : ∃ R, R = (ls.take j).map lbV := ⟨_, rfl⟩
      have HRL : Hid (R.length = j) := Lib.hid (by rw [hR, List.length_map, List.length_take]; omega)
      have HR1 : Hid ((ls.take (j + 1)).map lbV = R ++ [[.string q.n, .string q.v]]) := Lib.hid (by
        obtain ⟨hj2, e2⟩ := List.getElem?_eq_some_iff.1 hq
        rw [hR, List.take_succ_eq_append_getElem hj2, e2, List.map_append]
        rfl)
      obtain ⟨s, g0, u⟩ := q
      simp only at q0 q1 q2 HNA HR1
      have b0 : wr.cell? ⟨g, o + j * 3, none⟩ = some (.string s) := by rw [htx.old.cell (p := ⟨g, o + j * 3, none⟩) hgY]; exact q0
      have b1 : wr.cell? ⟨g, o + j * 3 + 1, none⟩ = some (.int .i64 g0) := by rw [htx.old.cell (p := ⟨g, o + j * 3 + 1, none⟩) hgY]; exact q1
      have b2 : wr.cell? ⟨g, o + j * 3 + 2, none⟩ = some (.string u) := by rw [htx.old.cell (p := ⟨g, o + j * 3 + 2, none⟩) hgY]; exact q2
      rw [← hR] at htx
      have HN1 : Hid (R.length + 1 ≤ maxLen) := Lib.hid (by rw [HRL.out]; unfold maxLen; omega)
      have HN2 : Hid ((R.length + 1) * 32 ≤ 140737488355328) := Lib.hid (by rw [HRL.out]; omega)
      obtain ⟨A0, c0', hv0, _⟩ := htx.own.form
      have HTX := Lib.hid htx
      obtain ⟨gg, hgg⟩ : ∃ gg, gg = (g1 && allIs (ls.take j)) := ⟨_, rfl⟩
      obtain ⟨gz, hgz⟩ : ∃ gz, (g0 == 0) = gz := ⟨_, rfl⟩
      have HNG : Hid ((g1 && allIs (ls.take (j + 1))) = (gg && gz)) := Lib.hid (by rw [HNA.out, hgg, hgz, Bool.and_assoc])
      rw [← hgg]
      clear hgg hR hq q0 q1 q2 hgY hl hj hlt htx HNA
      go_upto_region 6 with (fail)
      obtain ⟨D, hD⟩ : ∃ D, D = wr.heap.size := ⟨_, rfl⟩
      obtain ⟨W1, hW1⟩ : ∃ W : World, W = wr.alloc (.cells #[.string s, .int .i64 g0, .string u] 41) := ⟨_, rfl⟩
      have T1 : Hid (PxS w1 Y n R v W1) := Lib.hid (HTX.out.bel (by rw [hW1]; exact (Below.refl _ _).alloc (Nat.le_refl _) _))
      have KD : Hid (Blk W1 D 41 [.string s, .int .i64 g0, .string u]) := Lib.hid (by rw [hW1, hD]; exact Blk.made _ _ _)
      rw [← hW1, ← hD]
      clear hW1 hD b0 b1 b2 HTX
      have d0 : W1.cell? ⟨D, 0, none⟩ = some (.string s) := KD.out.cell 0
      have d1 : W1.cell? ⟨D, 1, none⟩ = some (.int .i64 g0) := KD.out.cell 1
      have d2 : W1.cell? ⟨D, 2, none⟩ = some (.string u) := KD.out.cell 2
      subst hv0
      have y1 : W1.cell? ⟨Y, 1, none⟩ = some (.slice A0 R.length c0') := T1.out.blk.cell 1
      have HBS : Hid (Y + 1 ≤ W1.heap.size) := Lib.hid T1.out.blk.lt
      cases gg with
      | false =>
        go_upto_region 8 with (at_builtin; (refine wpList_append_elR _ [.string s, .string u] 39 rfl (.tmp 31) (.tmp 37) _ rfl (Y + 1) 39 iq _ 2 32 Try.underlying22 hiq hiqz hiqs hiqb rfl (by decide) _ R rfl T1.out.own rfl (by intro u hu; simp only [List.mem_cons, List.not_mem_nil, or_false] at hu; rcases hu with rfl | rfl <;> rfl) rfl HN1.out HN2.out HBS.out ?_); intro v2 w2 own2 nx2; obtain ⟨A2, c2', hv2, _⟩ := own2.form; rw [List.length_append, List.length_singleton] at hv2; subst hv2; (have HT2 := Lib.hid (T1.out.next own2 nx2)); (have y3 : w2.cell? ⟨Y, 1, none⟩ = some (.slice A0 R.length c0') := by rw [nx2.below.cell (p := ⟨Y, 1, none⟩) (Nat.lt_succ_self _)]; exact y1); (have f3 : w2.frozen? ⟨Y, 1, none⟩ = false := (T1.out.blk.below nx2.below (Nat.lt_succ_self _)).free 1); clear own2 nx2 y1 d0 d1)
        have h5 := HT2.out
        rw [← HR1.out] at h5
        have H5 := Lib.hid h5
        clear h5
        go_wp2_with (fail)
        have hlt := HLT.out
        refine ⟨⟨j + 1, _, by rw [HNG.out]; rfl, by go_num, hlt, H5.out⟩, by simp [intOf]; omega⟩
      | true =>
        go_upto_region 8 with (at_builtin; (refine wpList_append_elR _ [.string s, .string u] 39 rfl (.tmp 31) (.tmp 37) _ rfl (Y + 1) 39 iq _ 2 32 Try.underlying22 hiq hiqz hiqs hiqb rfl (by decide) _ R rfl T1.out.own rfl (by intro u hu; simp only [List.mem_cons, List.not_mem_nil, or_false] at hu; rcases hu with rfl | rfl <;> rfl) rfl HN1.out HN2.out HBS.out ?_); intro v2 w2 own2 nx2; obtain ⟨A2, c2', hv2, _⟩ := own2.form; rw [List.length_append, List.length_singleton] at hv2; subst hv2; (have HT2 := Lib.hid (T1.out.next own2 nx2)); (have y3 : w2.cell? ⟨Y, 1, none⟩ = some (.slice A0 R.length c0') := by rw [nx2.below.cell (p := ⟨Y, 1, none⟩) (Nat.lt_succ_self _)]; exact y1); (have f3 : w2.frozen? ⟨Y, 1, none⟩ = false := (T1.out.blk.below nx2.below (Nat.lt_succ_self _)).free 1); clear own2 nx2 y1 d0 d1)
        have h5 := HT2.out
        rw [← HR1.out] at h5
        have H5 := Lib.hid h5
        clear h5
        go_wp2_with (fail)
        have hlt := HLT.out
        refine ⟨⟨j + 1, _, by rw [HNG.out]; rfl, by go_num, hlt, H5.out⟩, by simp [intOf]; omega⟩
    · have k1 : decide ((j : Int) < ls.length) = false := decide_eq_false (by omega)
      have k2 : decide (j < ls.length) = false := decide_eq_false hlt
      have e : ls.take j = ls := List.take_of_length_le (by omega)
      rw [e] at htx ⊢
      have HF := Lib.hid htx
      clear e hl hj hlt htx
      go_wp2_with (fail)
      exact HQ.out _ _ _ _ _ _ _ _ _ _ _ _ _ _ _ _ _ _ _ _ _ _ _ _ HF
end Go.Proofs.Ytckgpocfcanokaa
