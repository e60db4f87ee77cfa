/- The developers' says and Chooses. Condition: at most 20 labels, at most 20 questions. -/
import Derived.Test.YtckgpocfcanokaaLkIdx
import Derived.Test.YtckgpocfcanokaaLkIdl
import Derived.Test.YtckgpocfcanokaaLkStr
import Derived.Deep.Cut
namespace Go.Proofs.Ytckgpocfcanokaa
open Go.RowKit

theorem dec_beqK (x y : List UInt8) : (x == y) = decide (x = y) := by
  rw [Bool.eq_iff_iff, beq_iff_eq, decide_eq_true_eq]
def begL (n v : ByteArray) (q : Qu) : Bool := (q.n.toList == n.toList) && preB v q.v
set_option maxRecDepth 100000 in
set_option maxHeartbeats 1000000 in
theorem says1_any (X : Nat) (n v : ByteArray) (g : Int) (q : Qu) (w : World) (hX : Blk w X 41 [.string n, .int .i64 g, .string v]) :
    Calls Try.prog 28 #[.agg #[.string q.n, .string q.v], .pointer (some ⟨X, 0, none⟩)] w fun e w' => e = .returned (.bool (begL n v q)) ∧ Below w.heap.size w w' := by
  obtain ⟨s, gq, u⟩ := q
  simp only
  obtain ⟨L, hL⟩ : ∃ L, L = w.heap.size := ⟨_, rfl⟩
  obtain ⟨W0, hW0⟩ : ∃ W : World, W = w.alloc (.cells #[.string s, .string u] 39) := ⟨_, rfl⟩
  have D0 : Hid (Below w.heap.size w W0) := Lib.hid (by rw [hW0]; exact (Below.refl _ _).alloc (Nat.le_refl _) _)
  have K0 : Hid (Blk W0 L 39 [.string s, .string u]) := Lib.hid (by rw [hW0, hL]; exact Blk.made w _ _)
  have KX : Hid (Blk W0 X 41 [.string n, .int .i64 g, .string v]) := Lib.hid (hX.below D0.out hX.lt)
  have HX : Hid (W0 = w.alloc (.cells #[.string s, .string u] 39)) := Lib.hid hW0
  have l0 : W0.cell? ⟨L, 0, none⟩ = some (.string s) := K0.out.cell 0
  have l1 : W0.cell? ⟨L, 1, none⟩ = some (.string u) := K0.out.cell 1
  have x0 : W0.cell? ⟨X, 0, none⟩ = some (.string n) := KX.out.cell 0
  have x2 : W0.cell? ⟨X, 2, none⟩ = some (.string v) := KX.out.cell 2
  have HC := Lib.hid (hasPre_any u v W0)
  have HB : Hid (begL n v ⟨s, gq, u⟩ = ((s.toList == n.toList) && preB v u)) := Lib.hid rfl
  clear hX hW0
  cases hsame : (s.toList == n.toList) with
  | false =>
    rw [hsame, Bool.false_and] at HB
    go_enter Try.func28, Try.ntmps28
    go_upto_region 1 with (fail)
    rw [← HX.out, ← hL]
    clear HX hL
    go_wp2_with (fail)
    go_ret
    rw [HB.out]
    exact ⟨rfl, D0.out⟩
  | true =>
    rw [hsame, Bool.true_and] at HB
    go_enter Try.func28, Try.ntmps28
    go_upto_region 1 with (fail)
    rw [← HX.out, ← hL]
    clear HX hL
    go_wp2_with (fail)
    refine HC.out.mono ?_
    rintro e w1 ⟨rfl, hw1⟩
    replace hw1 := hw1.symm
    subst hw1
    go_wp2_with (fail)
    go_ret
    rw [HB.out]
    exact ⟨rfl, D0.out⟩
theorem likeL_is (n v : ByteArray) (q : Qu) : likeL n v q = (decide (q.n.toList = n.toList) && decide (q.v.toList = v.toList)) := by
  unfold likeL
  rw [Bool.eq_iff_iff, Bool.and_eq_true, Bool.and_eq_true, beq_iff_eq, beq_iff_eq, decide_eq_true_eq, decide_eq_true_eq]
  exact ⟨fun h => ⟨h.1.symm, h.2.symm⟩, fun h => ⟨h.1.symm, h.2.symm⟩⟩
theorem begL_is (n v : ByteArray) (q : Qu) : begL n v q = (decide (q.n.toList = n.toList) && v.toList.isPrefixOf q.v.toList) := by
  unfold begL preB
  rw [dec_beqK]
theorem says_0 (ls : List Qu) (n v : ByteArray) : saysB ls ⟨n, 0, v⟩ = ls.any (likeL n v) := by
  unfold saysB
  rw [if_pos rfl]
  congr 1
  funext q
  exact (likeL_is n v q).symm
theorem says_1 (ls : List Qu) (n v : ByteArray) : saysB ls ⟨n, 1, v⟩ = !ls.any (likeL n v) := by
  unfold saysB
  rw [if_neg (show ¬ (1 : Int) = 0 by decide), if_pos rfl]
  congr 2
  funext q
  exact (likeL_is n v q).symm
theorem says_2 (ls : List Qu) (n v : ByteArray) : saysB ls ⟨n, 2, v⟩ = ls.any (begL n v) := by
  unfold saysB
  rw [if_neg (show ¬ (2 : Int) = 0 by decide), if_neg (show ¬ (2 : Int) = 1 by decide), if_pos rfl]
  congr 1
  funext q
  exact (begL_is n v q).symm
theorem says_no (ls : List Qu) (n v : ByteArray) (g : Int) (h0 : g ≠ 0) (h1 : g ≠ 1) (h2 : g ≠ 2) : saysB ls ⟨n, g, v⟩ = false := by
  unfold saysB
  rw [if_neg h0, if_neg h1, if_neg h2]
set_option maxRecDepth 100000 in
set_option maxHeartbeats 2000000 in
theorem saysK_any (A : Option Addr) (c : Nat) (ls : List Qu) (n v : ByteArray) (g : Int) (w : World) (hr : RsLb w (.slice A ls.length c) ls) (hl : ls.length ≤ 20) :
    Calls Try.prog 22 #[.slice A ls.length c, .agg #[.string n, .int .i64 g, .string v]] w fun e w' => e = .returned (.bool (saysB ls ⟨n, g, v⟩)) ∧ Below w.heap.size w w' := by
  obtain ⟨X, hX⟩ : ∃ L, L = w.heap.size := ⟨_, rfl⟩
  obtain ⟨W0, hW0⟩ : ∃ W : World, W = w.alloc (.cells #[.string n, .int .i64 g, .string v] 41) := ⟨_, rfl⟩
  have D0 : Hid (Below w.heap.size w W0) := Lib.hid (by rw [hW0]; exact (Below.refl _ _).alloc (Nat.le_refl _) _)
  have K0 : Hid (Blk W0 X 41 [.string n, .int .i64 g, .string v]) := Lib.hid (by rw [hW0, hX]; exact Blk.made w _ _)
  have HX : Hid (W0 = w.alloc (.cells #[.string n, .int .i64 g, .string v] 41)) := Lib.hid hW0
  have x0 : W0.cell? ⟨X, 0, none⟩ = some (.string n) := K0.out.cell 0
  have x2 : W0.cell? ⟨X, 2, none⟩ = some (.string v) := K0.out.cell 2
  have HR := Lib.hid hr
  have HL := Lib.hid hl
  clear hr hl hW0
  go_enter Try.func22, Try.ntmps22
  go_upto_region 1 with (fail)
  rw [← HX.out, ← hX]
  clear HX hX
  go_upto_region 2 with (fail)
  obtain ⟨Y, hY⟩ : ∃ L, L = W0.heap.size := ⟨_, rfl⟩
  obtain ⟨W1, hW1⟩ : ∃ W : World, W = W0.alloc (.cells #[.string n, .string v] 39) := ⟨_, rfl⟩
  have B1 : Hid (Below W0.heap.size W0 W1) := Lib.hid (by rw [hW1]; exact (Below.refl _ _).alloc (Nat.le_refl _) _)
  have D1 : Hid (Below w.heap.size w W1) := Lib.hid (D0.out.trans (B1.out.mono D0.out.size))
  have KY : Hid (Blk W1 Y 39 [.string n, .string v]) := Lib.hid (by rw [hW1, hY]; exact Blk.made W0 _ _)
  have KX : Hid (Blk W1 X 41 [.string n, .int .i64 g, .string v]) := Lib.hid (K0.out.below B1.out K0.out.lt)
  have HR1 := Lib.hid (HR.out.below D1.out)
  rw [← hW1, ← hY]
  clear hW1 hY x0 x2 B1
  have x1 : W1.cell? ⟨X, 1, none⟩ = some (.int .i64 g) := KX.out.cell 1
  have y0 : W1.cell? ⟨Y, 0, none⟩ = some (.string n) := KY.out.cell 0
  have y1 : W1.cell? ⟨Y, 1, none⟩ = some (.string v) := KY.out.cell 1
  have CC := Lib.hid (conL_any A c ls n v W1 HR1.out HL.out)
  by_cases g0 : g = 0
  · subst g0
    have HS := Lib.hid (says_0 ls n v)
    go_wp2_with (fail)
    refine CC.out.mono ?_
    rintro e w2 ⟨rfl, hb⟩
    have HB := Lib.hid (D1.out.trans (hb.mono D1.out.size))
    clear hb
    go_wp2_with (fail)
    go_ret
    rw [HS.out]
    exact ⟨rfl, HB.out⟩
  · by_cases g1 : g = 1
    · subst g1
      have HS := Lib.hid (says_1 ls n v)
      clear g0
      go_wp2_with (fail)
      refine CC.out.mono ?_
      rintro e w2 ⟨rfl, hb⟩
      have HB := Lib.hid (D1.out.trans (hb.mono D1.out.size))
      clear hb
      go_wp2_with (fail)
      go_ret
      rw [HS.out]
      exact ⟨rfl, HB.out⟩
    · by_cases g2 : g = 2
      · subst g2
        have HS := Lib.hid (says_2 ls n v)
        have CB := Lib.hid (col_any A c X ls (begL n v) W1 HR1.out HL.out fun W q _ hb => says1_any X n v 2 q W (KX.out.below hb KX.out.lt))
        clear g0 g1
        go_wp2_with (fail)
        refine CB.out.mono ?_
        rintro e w2 ⟨rfl, hb⟩
        have HB := Lib.hid (D1.out.trans (hb.mono D1.out.size))
        clear hb
        go_wp2_with (fail)
        go_ret
        rw [HS.out]
        exact ⟨rfl, HB.out⟩
      · have HS := Lib.hid (says_no ls n v g g0 g1 g2)
        have e0 : (g == 0) = false := by rw [beq_eq_false_iff_ne]; exact g0
        have e1 : (g == 1) = false := by rw [beq_eq_false_iff_ne]; exact g1
        have e2 : (g == 2) = false := by rw [beq_eq_false_iff_ne]; exact g2
        clear g0 g1 g2
        go_wp2_with (fail)
        go_ret
        rw [HS.out]
        exact ⟨rfl, D1.out⟩
set_option maxRecDepth 100000 in
set_option maxHeartbeats 1000000 in
theorem no_any (X : Nat) (n : ByteArray) (A : Option Addr) (c : Nat) (ls : List Qu) (q : Qu) (w : World) (hX : Blk w X 24 [.string n, .slice A ls.length c]) (hr : RsLb w (.slice A ls.length c) ls) (hl : ls.length ≤ 20) :
    Calls Try.prog 21 #[.agg #[.string q.n, .int .i64 q.g, .string q.v], .pointer (some ⟨X, 0, none⟩)] w fun e w' => e = .returned (.bool (!saysB ls q)) ∧ Below w.heap.size w w' := by
  obtain ⟨s, g, u⟩ := q
  simp only
  obtain ⟨L, hL⟩ : ∃ L, L = w.heap.size := ⟨_, rfl⟩
  obtain ⟨W0, hW0⟩ : ∃ W : World, W = w.alloc (.cells #[.string s, .int .i64 g, .string u] 41) := ⟨_, rfl⟩
  have D0 : Hid (Below w.heap.size w W0) := Lib.hid (by rw [hW0]; exact (Below.refl _ _).alloc (Nat.le_refl _) _)
  have K0 : Hid (Blk W0 L 41 [.string s, .int .i64 g, .string u]) := Lib.hid (by rw [hW0, hL]; exact Blk.made w _ _)
  have KX : Hid (Blk W0 X 24 [.string n, .slice A ls.length c]) := Lib.hid (hX.below D0.out hX.lt)
  have HX : Hid (W0 = w.alloc (.cells #[.string s, .int .i64 g, .string u] 41)) := Lib.hid hW0
  have HC := Lib.hid (saysK_any A c ls s u g W0 (hr.below D0.out) hl)
  have l0 : W0.cell? ⟨L, 0, none⟩ = some (.string s) := K0.out.cell 0
  have l1 : W0.cell? ⟨L, 1, none⟩ = some (.int .i64 g) := K0.out.cell 1
  have l2 : W0.cell? ⟨L, 2, none⟩ = some (.string u) := K0.out.cell 2
  have x1 : W0.cell? ⟨X, 1, none⟩ = some (.slice A ls.length c) := KX.out.cell 1
  clear hX hW0 hr hl
  go_enter Try.func21, Try.ntmps21
  go_upto_region 1 with (fail)
  rw [← HX.out, ← hL]
  clear HX hL
  go_wp2_with (fail)
  refine HC.out.mono ?_
  rintro e w1 ⟨rfl, hb⟩
  have HB := Lib.hid (D0.out.trans (hb.mono D0.out.size))
  clear hb
  go_wp2_with (fail)
  go_ret
  exact ⟨rfl, HB.out⟩
theorem choosesB_is (m : ByteArray) (qs : List Qu) (n : ByteArray) (ls : List Qu) : choosesB ⟨m, qs⟩ ⟨n, ls⟩ = ((m.toList.isEmpty || (m.toList == n.toList)) && !(qs.any fun q => !saysB ls q)) := by
  unfold choosesB
  simp only
  congr 1
  · rw [dec_beqK]
    congr 1
    cases m.toList with
    | nil => rfl
    | cons a l => rfl
  · rw [List.not_any_eq_all_not]
    congr 1
    funext q
    rw [Bool.not_not]
set_option maxRecDepth 100000 in
set_option maxHeartbeats 2000000 in
theorem choosesK_any (m : ByteArray) (vq : Value) (qs : List Qu) (n : ByteArray) (vs : Value) (ls : List Qu) (w : World) (hq : RsQu w vq qs) (hr : RsLb w vs ls) (hl : ls.length ≤ 20) (hlq : qs.length ≤ 20) :
    Calls Try.prog 13 #[.agg #[.string m, vq], .agg #[.string n, vs]] w fun e w' => e = .returned (.bool (choosesB ⟨m, qs⟩ ⟨n, ls⟩)) ∧ Below w.heap.size w w' := by
  obtain ⟨A, c, rfl, _⟩ := hr.form
  obtain ⟨B, d, rfl, _⟩ := hq.form
  obtain ⟨X, hX⟩ : ∃ L, L = w.heap.size := ⟨_, rfl⟩
  obtain ⟨Y, hY⟩ : ∃ L, L = w.heap.size + 1 := ⟨_, rfl⟩
  obtain ⟨W0, hW0⟩ : ∃ W : World, W = (w.alloc (.cells #[.string m, .slice B qs.length d] 28)).alloc (.cells #[.string n, .slice A ls.length c] 24) := ⟨_, rfl⟩
  have S1 : (w.alloc (.cells #[.string m, .slice B qs.length d] 28)).heap.size = Y := by rw [hY]; simp
  have D0 : Hid (Below w.heap.size w W0) := Lib.hid (by rw [hW0]; exact ((Below.refl _ _).alloc (Nat.le_refl _) _).alloc (by simp) _)
  have KX : Hid (Blk W0 X 28 [.string m, .slice B qs.length d]) := Lib.hid (by rw [hW0, hX]; exact (Blk.made w 28 [.string m, .slice B qs.length d]).alloc _)
  have KY : Hid (Blk W0 Y 24 [.string n, .slice A ls.length c]) := Lib.hid (by rw [hW0, ← S1]; exact Blk.made _ 24 [.string n, .slice A ls.length c])
  have HX : Hid (W0 = (w.alloc (.cells #[.string m, .slice B qs.length d] 28)).alloc (.cells #[.string n, .slice A ls.length c] 24)) := Lib.hid hW0
  have HR := Lib.hid (hr.below D0.out)
  have HC := Lib.hid (coq_any B d Y qs (fun q => !saysB ls q) W0 (hq.below D0.out) hlq fun W q _ hb => no_any Y n A c ls q W (KY.out.below hb KY.out.lt) (HR.out.below hb) hl)
  have HS := Lib.hid (choosesB_is m qs n ls)
  obtain ⟨r, hr'⟩ : ∃ r, r = qs.any fun q => !saysB ls q := ⟨_, rfl⟩
  rw [← hr'] at HC HS
  have x0 : W0.cell? ⟨X, 0, none⟩ = some (.string m) := KX.out.cell 0
  have x1 : W0.cell? ⟨X, 1, none⟩ = some (.slice B qs.length d) := KX.out.cell 1
  have y0 : W0.cell? ⟨Y, 0, none⟩ = some (.string n) := KY.out.cell 0
  clear hr' hW0 hr hq hl hlq S1
  cases hme : m.toList.isEmpty with
  | true =>
    rw [hme, Bool.true_or, Bool.true_and] at HS
    go_enter Try.func13, Try.ntmps13
    go_upto_region 1 with (fail)
    rw [← HX.out, ← hY, ← hX]
    clear HX hX hY
    go_wp2_with (fail)
    refine HC.out.mono ?_
    rintro e w1 ⟨rfl, hb⟩
    have HB := Lib.hid (D0.out.trans (hb.mono D0.out.size))
    clear hb
    go_wp2_with (fail)
    go_ret
    rw [HS.out]
    exact ⟨rfl, HB.out⟩
  | false =>
    rw [hme, Bool.false_or] at HS
    cases hsame : (m.toList == n.toList) with
    | true =>
      have k2 : (m.toList != n.toList) = false := by rw [bne, hsame]; rfl
      rw [hsame, Bool.true_and] at HS
      go_enter Try.func13, Try.ntmps13
      go_upto_region 1 with (fail)
      rw [← HX.out, ← hY, ← hX]
      clear HX hX hY
      go_wp2_with (fail)
      refine HC.out.mono ?_
      rintro e w1 ⟨rfl, hb⟩
      have HB := Lib.hid (D0.out.trans (hb.mono D0.out.size))
      clear hb
      go_wp2_with (fail)
      go_ret
      rw [HS.out]
      exact ⟨rfl, HB.out⟩
    | false =>
      have k2 : (m.toList != n.toList) = true := by rw [bne, hsame]; rfl
      rw [hsame, Bool.false_and] at HS
      clear HC
      go_enter Try.func13, Try.ntmps13
      go_upto_region 1 with (fail)
      rw [← HX.out, ← hY, ← hX]
      clear HX hX hY
      go_wp2_with (fail)
      go_ret
      rw [HS.out]
      exact ⟨rfl, D0.out⟩
end Go.Proofs.Ytckgpocfcanokaa
