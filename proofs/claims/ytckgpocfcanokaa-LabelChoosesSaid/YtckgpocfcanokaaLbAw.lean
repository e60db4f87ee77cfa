/- The fifteenth law's example. Premise: the contracts. -/
import Derived.Test.YtckgpocfcanokaaLbCon
import Derived.Test.YtckgpocfcanokaaLbWrd
import Derived.Deep.Cut
namespace Go.Proofs.Ytckgpocfcanokaa
open Go.RowKit

def bts (l : List UInt8) : ByteArray := ⟨l.toArray⟩
theorem bts_list (l : List UInt8) : (bts l).toList = l := by rw [ByteArray.toList_eq]; rfl
/-- cpu{host=a,zone=1} -/
def exS : Se := ⟨bts [99, 112, 117], [⟨bts [104, 111, 115, 116], 0, bts [97]⟩, ⟨bts [122, 111, 110, 101], 0, bts [49]⟩]⟩
/-- {zone!=2,host^=a} -/
def exQ : Se := ⟨bts [], [⟨bts [122, 111, 110, 101], 1, bts [50]⟩, ⟨bts [104, 111, 115, 116], 2, bts [97]⟩]⟩
theorem exS_may : MayS exS := by
  refine ⟨?_, fun q hq => ?_, by decide, ?_⟩
  · show wordB (bts [99, 112, 117]).toList = true
    rw [bts_list]; decide
  · simp only [exS, List.mem_cons, List.not_mem_nil, or_false] at hq
    rcases hq with rfl | rfl
    · exact ⟨⟨by rw [bts_list]; decide, by rw [bts_list]; decide, .inl rfl⟩, rfl⟩
    · exact ⟨⟨by rw [bts_list]; decide, by rw [bts_list]; decide, .inl rfl⟩, rfl⟩
  · simp only [exS, List.pairwise_cons, List.mem_cons, List.not_mem_nil, or_false, forall_eq, bts_list, false_imp_iff, implies_true, List.Pairwise.nil, and_true]
    decide
theorem exQ_may : MayQ exQ := by
  refine ⟨.inl (bts_list _), fun q hq => ?_, by decide⟩
  simp only [exQ, List.mem_cons, List.not_mem_nil, or_false] at hq
  rcases hq with rfl | rfl
  · exact ⟨by rw [bts_list]; decide, by rw [bts_list]; decide, .inr (.inl rfl)⟩
  · exact ⟨by rw [bts_list]; decide, by rw [bts_list]; decide, .inr (.inr rfl)⟩
theorem exS_text : textB exS = [99, 112, 117, 123, 104, 111, 115, 116, 61, 97, 44, 122, 111, 110, 101, 61, 49, 125] := by
  unfold textB exS
  simp [bodyB, bts_list, sgB]
theorem exQ_text : textB exQ = [123, 122, 111, 110, 101, 33, 61, 50, 44, 104, 111, 115, 116, 94, 61, 97, 125] := by
  unfold textB exQ
  simp [bodyB, bts_list, sgB]
theorem ex_chosen : choosesB exQ exS = true := by
  unfold choosesB exQ exS
  simp [saysB, bts_list]
theorem ser_one {t : ByteArray} {s s' : Se} {k : Int} (h : SerAns t s k) (hm : MayS s') (ht : textB s' = t.toList) : k = 0 ∧ s = s' := by
  rcases h with ⟨h1, h2, h3⟩ | ⟨_, h2⟩
  · exact ⟨h1, text_inj h2.sel hm.sel (h3.trans ht.symm)⟩
  · exact absurd ⟨s', hm, ht⟩ h2
theorem sel_one {t : ByteArray} {s s' : Se} {k : Int} (h : SelAns t s k) (hm : MayQ s') (ht : textB s' = t.toList) : k = 0 ∧ s = s' := by
  rcases h with ⟨h1, h2, h3⟩ | ⟨_, h2⟩
  · exact ⟨h1, text_inj h2 hm (h3.trans ht.symm)⟩
  · exact absurd ⟨s', hm, ht⟩ h2
set_option maxRecDepth 100000 in
set_option maxHeartbeats 4000000 in
theorem awakeL_any (LC : LabelC) (w : World) : Calls Try.prog 6 #[] w fun e w' => e = .returned (.bool true) ∧ Below w.heap.size w w' := by
  have HP : Hid (∀ W : World, Calls Try.prog 10 #[.string ⟨#[99, 112, 117, 123, 104, 111, 115, 116, 61, 97, 44, 122, 111, 110, 101, 61, 49, 125]⟩] W fun e w' => ∃ (v : Value), e = .returned (.tuple #[.agg #[.string exS.n, v], .int .i64 0]) ∧ RsLb w' v exS.l ∧ Below W.heap.size W w') := Lib.hid fun W => by
    refine (LC.parse _ W (by decide)).mono ?_
    rintro e w' ⟨n, v, ls, k, rfl, hr, _, ha, hb⟩
    obtain ⟨rfl, h2⟩ := ser_one ha exS_may (by rw [exS_text, ByteArray.toList_eq])
    rw [← h2]
    exact ⟨v, rfl, hr, hb⟩
  have HQ : Hid (∀ W : World, Calls Try.prog 15 #[.string ⟨#[123, 122, 111, 110, 101, 33, 61, 50, 44, 104, 111, 115, 116, 94, 61, 97, 125]⟩] W fun e w' => ∃ (v : Value), e = .returned (.tuple #[.agg #[.string exQ.n, v], .int .i64 0]) ∧ RsQu w' v exQ.l ∧ Below W.heap.size W w') := Lib.hid fun W => by
    refine (LC.selector _ W (by decide)).mono ?_
    rintro e w' ⟨n, v, ls, k, rfl, hr, _, ha, hb⟩
    obtain ⟨rfl, h2⟩ := sel_one ha exQ_may (by rw [exQ_text, ByteArray.toList_eq])
    rw [← h2]
    exact ⟨v, rfl, hr, hb⟩
  obtain ⟨sn, hsn⟩ : ∃ sn, sn = exS.n := ⟨_, rfl⟩
  obtain ⟨qn, hqn⟩ : ∃ qn, qn = exQ.n := ⟨_, rfl⟩
  obtain ⟨sl, hsl⟩ : ∃ sl, sl = exS.l := ⟨_, rfl⟩
  obtain ⟨ql, hql⟩ : ∃ ql, ql = exQ.l := ⟨_, rfl⟩
  have HC : Hid (∀ (W : World) (vq vs : Value), RsQu W vq ql → RsLb W vs sl → Calls Try.prog 13 #[.agg #[.string qn, vq], .agg #[.string sn, vs]] W fun e w' => e = .returned (.bool true) ∧ Below W.heap.size W w') := Lib.hid fun W vq vs h1 h2 => by
    have h3 := LC.chooses qn vq ql sn vs sl W h1 h2 (by rw [hqn]; decide) (by rw [hsn]; decide) (by rw [hsl]; decide) (by rw [hql]; decide)
    have h4 : choosesB ⟨qn, ql⟩ ⟨sn, sl⟩ = true := by rw [hqn, hql, hsn, hsl]; exact ex_chosen
    rw [h4] at h3
    exact h3
  have HSL : Hid (sl.length = 2 ∧ ql.length = 2) := Lib.hid (by rw [hsl, hql]; exact ⟨rfl, rfl⟩)
  rw [← hsn, ← hsl] at HP
  rw [← hqn, ← hql] at HQ
  clear hsn hqn hsl hql
  go_enter Try.func6, Try.ntmps6
  go_wp2_with (fail)
  refine (HP.out w).mono ?_
  rintro e w1 ⟨v1, rfl, hr1, hb1⟩
  obtain ⟨A1, c1, rfl, _⟩ := hr1.form
  rw [HSL.out.1] at hr1 ⊢
  obtain ⟨W1, hW1⟩ : ∃ W : World, W = w1.alloc (.cells #[.string sn, .slice A1 2 c1] 24) := ⟨_, rfl⟩
  have D1 : Hid (Below w1.heap.size w1 W1) := Lib.hid (by rw [hW1]; exact (Below.refl _ _).alloc (Nat.le_refl _) _)
  have X1 : Hid (Blk W1 w1.heap.size 24 [.string sn, .slice A1 2 c1]) := Lib.hid (by rw [hW1]; exact Blk.made w1 _ _)
  have R1 := Lib.hid (hr1.below D1.out)
  have B1 : Hid (Below w.heap.size w W1) := Lib.hid (hb1.trans (D1.out.mono hb1.size))
  have HX1 := Lib.hid hW1
  clear hr1 hb1 hW1
  go_upto_region 2 with (fail)
  rw [← HX1.out]
  obtain ⟨X, hX⟩ : ∃ X, X = w1.heap.size := ⟨_, rfl⟩
  rw [← hX] at X1 ⊢
  clear HX1 hX D1
  go_wp2_with (fail)
  refine (HQ.out _).mono ?_
  rintro e w2 ⟨v2, rfl, hr2, hb2⟩
  obtain ⟨A2, c2, rfl, _⟩ := hr2.form
  rw [HSL.out.2] at hr2 ⊢
  obtain ⟨W2, hW2⟩ : ∃ W : World, W = w2.alloc (.cells #[.string qn, .slice A2 2 c2] 28) := ⟨_, rfl⟩
  have D2 : Hid (Below w2.heap.size w2 W2) := Lib.hid (by rw [hW2]; exact (Below.refl _ _).alloc (Nat.le_refl _) _)
  have X2 : Hid (Blk W2 w2.heap.size 28 [.string qn, .slice A2 2 c2]) := Lib.hid (by rw [hW2]; exact Blk.made w2 _ _)
  have B12 : Hid (Below W1.heap.size W1 W2) := Lib.hid (hb2.trans (D2.out.mono hb2.size))
  have R2 := Lib.hid (hr2.below D2.out)
  have R12 := Lib.hid (R1.out.below B12.out)
  have X12 := Lib.hid (X1.out.below B12.out X1.out.lt)
  have B2 : Hid (Below w.heap.size w W2) := Lib.hid (B1.out.trans (B12.out.mono B1.out.size))
  have HX2 := Lib.hid hW2
  clear hr2 hb2 hW2
  go_upto_region 3 with (fail)
  rw [← HX2.out]
  obtain ⟨Y, hY⟩ : ∃ Y, Y = w2.heap.size := ⟨_, rfl⟩
  rw [← hY] at X2 ⊢
  clear HX2 hY D2
  have x0 : W2.cell? ⟨X, 0, none⟩ = some (.string sn) := by rw [X12.out.cell]; rfl
  have x1 : W2.cell? ⟨X, 1, none⟩ = some (.slice A1 2 c1) := by rw [X12.out.cell]; rfl
  have y0 : W2.cell? ⟨Y, 0, none⟩ = some (.string qn) := by rw [X2.out.cell]; rfl
  have y1 : W2.cell? ⟨Y, 1, none⟩ = some (.slice A2 2 c2) := by rw [X2.out.cell]; rfl
  go_wp2_with (fail)
  refine (HC.out _ _ _ R2.out R12.out).mono ?_
  rintro e w3 ⟨rfl, hb3⟩
  have B3 := Lib.hid (B2.out.trans (hb3.mono B2.out.size))
  clear hb3
  go_wp2_with (fail)
  go_ret
  exact ⟨rfl, B3.out⟩
end Go.Proofs.Ytckgpocfcanokaa
