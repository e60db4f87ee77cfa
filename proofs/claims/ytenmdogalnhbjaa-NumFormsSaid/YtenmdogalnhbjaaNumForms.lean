/- The law NumForms holds: any number of any width has the document's form behind any bytes, and any bytes are read as a number of any width or refused. Conditions: none. -/
import Derived.Test.YtenmdogalnhbjaaAwake
import Derived.Test.YtenmdogalnhbjaaLent
import Derived.Test.YtenmdogalnhbjaaForms1
import Derived.ProofKit
import Derived.OpenShut
import Derived.Carry
namespace Go.Proofs.Ytenmdogalnhbjaa.numForms
open Go.ChangeShapes Go.WideShapes Go.ChangeAt Go.RowKit

theorem own_below {w w' : World} {base : Nat} {t : TypeId} {v : Value} {n : Nat} {xs : List Value} (h : w.ownsRow base t 1 v n xs) (hb : Below w.heap.size w w') : w'.ownsRow base t 1 v n xs := by
  refine h.kept (row := none) ⟨hb.os, hb.tape, hb.output, hb.size, fun k hk _ => hb.block k hk⟩ ?_
  by_cases h0 : v.ownBlock = none
  · exact .inl h0
  · exact .inr h0

set_option maxHeartbeats 400000 in
theorem walk_long (v : Value) (xs : List UInt8) (n k : Int) (w : World) (h : Rd w v xs) (hl : 2000 < xs.length) :
    Calls Try.prog 3 #[v, .int .u64 n, .int .i64 k] w fun e w' => e = .returned (.bool true) ∧ Below w.heap.size w w' := by
  obtain ⟨A, c, rfl, hc1, hc2, hA⟩ := h.form
  unfold maxLen at hc2
  clear h hA
  go_enter Try.func3, Try.ntmps3
  go_wp2_with (fail)
  refine (awake_any _).mono ?_
  rintro e w3 ⟨rfl, hb3⟩
  go_wp2_with (fail)
  go_ret
  exact ⟨rfl, hb3⟩

set_option maxRecDepth 100000 in
set_option maxHeartbeats 400000 in
theorem walk_no (v : Value) (xs : List UInt8) (n : Nat) (k : Int) (w : World) (h : Rd w v xs) (hl : xs.length ≤ 2000) (hk : isW k = false) :
    Calls Try.prog 3 #[v, .int .u64 n, .int .i64 k] w fun e w' => e = .returned (.bool true) ∧ Below w.heap.size w w' := by
  obtain ⟨i0, hi, hz0, hz1, hz2⟩ := info_parts info_u8
  obtain ⟨A, c, rfl, hc1, hc2, hA⟩ := h.form
  have HR := Lib.hid h
  have HK := Lib.hid hk
  unfold maxLen at hc2
  have hor : k < 1 ∨ (1 ≤ k ∧ 8 < k) := by
    unfold isW at hk
    by_cases h1 : 1 ≤ k
    · exact .inr ⟨h1, by simpa [h1] using hk⟩
    · exact .inl (by omega)
  clear h hA hk
  rcases hor with o1 | ⟨o1, o2⟩
  all_goals
    go_enter Try.func3, Try.ntmps3
    go_wp2_with (fail)
    refine (lent_any _ xs _ HR.out (by omega)).mono ?_
    rintro e w1 ⟨g, rfl, lent1, hg, hb1⟩
    have HL1 := Lib.hid lent1
    clear lent1
    go_wp2_with (fail)
    refine (put_no _ xs n k _ (HL1.out.rd (by omega)) (by omega) HK.out).mono ?_
    rintro e w2 ⟨v2, rfl, own2, hb2⟩
    go_wp2_with (fail)
    refine (get_no _ xs k _ ((HL1.out.below hb2).rd (by omega)) HK.out).mono ?_
    rintro e w3 ⟨rfl, rfl⟩
    have B2 : Below w.heap.size w w2 := hb1.trans (hb2.mono hb1.size)
    have HR2 := Lib.hid ((HR.out.below B2).alloc (.cells #[] 5))
    go_wp2_with (at_builtin
                 refine wpList_append_rd _ rfl _ _ _ rfl w2.heap.size 5 i0 _ Try.underlying22 hi hz0 hz1 hz2 rfl (.slice (some ⟨w2.heap.size, 0, none⟩) 0 0) 0 [] rfl (World.ownsRow_lit w2 #[] 0 (Nat.le_refl _) (by simp) rfl) _ xs rfl HR2.out ?_ ?_ ?_
                 · omega
                 · simp
                 intro v3 w3 own3 g3)
    have D3 : Below w2.heap.size w2 w3 := ((Below.refl _ _).alloc (Nat.le_refl _) _).grown g3 (by simp) (by simp [Value.ownBlock])
    have B3 : Below w.heap.size w w3 := B2.trans (D3.mono B2.size)
    have r2 := Lib.hid ((Rd.of_own own2).below D3)
    have r3 : Hid (Rd w3 v3 xs) := Rd.of_own (by simpa using own3)
    have rb := Lib.hid (HR.out.below B3)
    have l3 := Lib.hid ((HL1.out.below hb2).below D3)
    clear own2 own3 g3 hb2 D3
    refine (same_yes v2 v3 xs _ r2.out r3.out).mono ?_
    rintro e w4 ⟨rfl, n4, rfl⟩
    go_wp2_with (fail)
    refine (kept_any g _ xs (w3.drewN n4) (l3.out) (rb.out) (by omega)).mono ?_
    rintro e w5 ⟨rfl, n5, rfl⟩
    go_wp2_with (fail)
    refine (awake_any _).mono ?_
    rintro e w6 ⟨rfl, hb6⟩
    go_wp2_with (fail)
    go_ret
    exact ⟨rfl, (below_drewN B3 (n4 + n5)).trans (hb6.mono B3.size)⟩

set_option maxRecDepth 100000 in
set_option maxHeartbeats 400000 in
theorem walk_short (v : Value) (xs : List UInt8) (n k : Nat) (w : World) (h : Rd w v xs) (hl : xs.length ≤ 2000) (hn : (n : Int) ≤ 18446744073709551615) (h1 : 1 ≤ k) (h8 : k ≤ 8) (hkl : xs.length < k) :
    Calls Try.prog 3 #[v, .int .u64 n, .int .i64 k] w fun e w' => e = .returned (.bool true) ∧ Below w.heap.size w w' := by
  obtain ⟨i0, hi, hz0, hz1, hz2⟩ := info_parts info_u8
  obtain ⟨A, c, rfl, hc1, hc2, hA⟩ := h.form
  have HR := Lib.hid h
  have HN := Lib.hid hn
  have i1 : (1 : Int) ≤ (k : Int) := by omega
  have i8 : (k : Int) ≤ 8 := by omega
  unfold maxLen at hc2
  clear h hA hn
  go_enter Try.func3, Try.ntmps3
  go_wp2_with (fail)
  refine (lent_any _ xs _ HR.out (by omega)).mono ?_
  rintro e w1 ⟨g, rfl, lent1, hg, hb1⟩
  have HL1 := Lib.hid lent1
  clear lent1
  go_wp2_with (fail)
  refine (put_yes _ xs n k _ (HL1.out.rd (by omega)) (by omega) HN.out h1 h8).mono ?_
  rintro e w2 ⟨v2, rfl, own2, hb2⟩
  go_wp2_with (fail)
  refine (get_short _ xs k _ ((HL1.out.below hb2).rd (by omega)) h1 h8 hkl).mono ?_
  rintro e w3 ⟨rfl, rfl⟩
  have B2 : Below w.heap.size w w2 := hb1.trans (hb2.mono hb1.size)
  have HR2 := Lib.hid ((HR.out.below B2).alloc (.cells #[] 5))
  go_wp2_with (at_builtin
               refine wpList_append_rd _ rfl _ _ _ rfl w2.heap.size 5 i0 _ Try.underlying22 hi hz0 hz1 hz2 rfl (.slice (some ⟨w2.heap.size, 0, none⟩) 0 0) 0 [] rfl (World.ownsRow_lit w2 #[] 0 (Nat.le_refl _) (by simp) rfl) _ xs rfl HR2.out ?_ ?_ ?_
               · omega
               · simp
               intro v3 w3 own3 g3)
  have D3 : Below w2.heap.size w2 w3 := ((Below.refl _ _).alloc (Nat.le_refl _) _).grown g3 (by simp) (by simp [Value.ownBlock])
  have B3 : Below w.heap.size w w3 := B2.trans (D3.mono B2.size)
  have O2 := Lib.hid own2
  have O3 : Hid (w3.ownsRow w2.heap.size 5 1 v3 xs.length (xs.map bv)) := Lib.hid (by simpa using own3)
  have G3 := Lib.hid g3
  clear own2 own3 g3
  refine (form_any n k _ HN.out h8).mono ?_
  rintro e w4 ⟨v4, rfl, own4, hb4⟩
  have O4 := Lib.hid (own_below O3.out hb4)
  have R4 := Lib.hid (Rd.of_own own4)
  have S3 := Lib.hid D3.size
  have hlen : (leB k n).length ≤ 8 := by rw [leB_length]; exact h8
  have HLB := Lib.hid hlen
  clear own4 hlen
  go_wp2_with (at_builtin
               refine wpList_append_rd _ rfl _ _ _ rfl w2.heap.size 5 i0 _ Try.underlying22 hi hz0 hz1 hz2 rfl v3 xs.length (xs.map bv) rfl O4.out v4 (leB k n) rfl R4.out ?_ ?_ ?_
               · have := HLB.out; omega
               · exact Nat.le_trans S3.out hb4.size
               intro v5 w5 own5 g5)
  have D4 : Below w2.heap.size w2 w4 := D3.trans (hb4.mono D3.size)
  have D5 : Below w2.heap.size w2 w5 := D4.grown g5 D4.size (own_ge O4.out)
  have B5 : Below w.heap.size w w5 := B2.trans (D5.mono B2.size)
  have r2 := Lib.hid ((Rd.of_own O2.out).below D5)
  have r5 : Hid (Rd w5 v5 (xs ++ leB k n)) := Rd.of_own (n := xs.length + (leB k n).length) (by simpa using own5)
  have rb := Lib.hid (HR.out.below B5)
  have l5 := Lib.hid ((HL1.out.below hb2).below D5)
  clear own5 g5 hb2 D3 D4 D5
  refine (same_yes v2 v5 (xs ++ leB k n) _ r2.out r5.out).mono ?_
  rintro e w6 ⟨rfl, n4, rfl⟩
  go_wp2_with (fail)
  refine (kept_any g _ xs (w5.drewN n4) (l5.out) (rb.out) (by omega)).mono ?_
  rintro e w7 ⟨rfl, n5, rfl⟩
  go_wp2_with (fail)
  refine (awake_any _).mono ?_
  rintro e w8 ⟨rfl, hb8⟩
  go_wp2_with (fail)
  go_ret
  exact ⟨rfl, (below_drewN B5 (n4 + n5)).trans (hb8.mono B5.size)⟩

set_option maxRecDepth 100000 in
set_option maxHeartbeats 400000 in
theorem walk_full (v : Value) (xs : List UInt8) (n k : Nat) (w : World) (h : Rd w v xs) (hl : xs.length ≤ 2000) (hn : (n : Int) ≤ 18446744073709551615) (h1 : 1 ≤ k) (h8 : k ≤ 8) (hkl : k ≤ xs.length) :
    Calls Try.prog 3 #[v, .int .u64 n, .int .i64 k] w fun e w' => e = .returned (.bool true) ∧ Below w.heap.size w w' := by
  obtain ⟨i0, hi, hz0, hz1, hz2⟩ := info_parts info_u8
  obtain ⟨A, c, rfl, hc1, hc2, hA⟩ := h.form
  have HR := Lib.hid h
  have HN := Lib.hid hn
  have i1 : (1 : Int) ≤ (k : Int) := by omega
  have i8 : (k : Int) ≤ 8 := by omega
  unfold maxLen at hc2
  clear h hA hn
  go_enter Try.func3, Try.ntmps3
  go_wp2_with (fail)
  refine (lent_any _ xs _ HR.out (by omega)).mono ?_
  rintro e w1 ⟨g, rfl, lent1, hg, hb1⟩
  have HL1 := Lib.hid lent1
  clear lent1
  go_wp2_with (fail)
  refine (put_yes _ xs n k _ (HL1.out.rd (by omega)) (by omega) HN.out h1 h8).mono ?_
  rintro e w2 ⟨v2, rfl, own2, hb2⟩
  go_wp2_with (fail)
  refine (get_yes _ xs k _ ((HL1.out.below hb2).rd (by omega)) h1 h8 hkl).mono ?_
  rintro e w3 ⟨rfl, rfl⟩
  have B2 : Below w.heap.size w w2 := hb1.trans (hb2.mono hb1.size)
  have HR2 := Lib.hid ((HR.out.below B2).alloc (.cells #[] 5))
  go_wp2_with (at_builtin
               refine wpList_append_rd _ rfl _ _ _ rfl w2.heap.size 5 i0 _ Try.underlying22 hi hz0 hz1 hz2 rfl (.slice (some ⟨w2.heap.size, 0, none⟩) 0 0) 0 [] rfl (World.ownsRow_lit w2 #[] 0 (Nat.le_refl _) (by simp) rfl) _ xs rfl HR2.out ?_ ?_ ?_
               · omega
               · simp
               intro v3 w3 own3 g3)
  all_goals try (exfalso; omega)
  have D3 : Below w2.heap.size w2 w3 := ((Below.refl _ _).alloc (Nat.le_refl _) _).grown g3 (by simp) (by simp [Value.ownBlock])
  have B3 : Below w.heap.size w w3 := B2.trans (D3.mono B2.size)
  have O2 := Lib.hid own2
  have O3 : Hid (w3.ownsRow w2.heap.size 5 1 v3 xs.length (xs.map bv)) := Lib.hid (by simpa using own3)
  have G3 := Lib.hid g3
  clear own2 own3 g3
  refine (form_any n k _ HN.out h8).mono ?_
  rintro e w4 ⟨v4, rfl, own4, hb4⟩
  have O4 := Lib.hid (own_below O3.out hb4)
  have R4 := Lib.hid (Rd.of_own own4)
  have S3 := Lib.hid D3.size
  have hlen : (leB k n).length ≤ 8 := by rw [leB_length]; exact h8
  have HLB := Lib.hid hlen
  clear own4 hlen
  go_wp2_with (at_builtin
               refine wpList_append_rd _ rfl _ _ _ rfl w2.heap.size 5 i0 _ Try.underlying22 hi hz0 hz1 hz2 rfl v3 xs.length (xs.map bv) rfl O4.out v4 (leB k n) rfl R4.out ?_ ?_ ?_
               · have := HLB.out; omega
               · exact Nat.le_trans S3.out hb4.size
               intro v5 w5 own5 g5)
  have D4 : Below w2.heap.size w2 w4 := D3.trans (hb4.mono D3.size)
  have D5 : Below w2.heap.size w2 w5 := D4.grown g5 D4.size (own_ge O4.out)
  have B5 : Below w.heap.size w w5 := B2.trans (D5.mono B2.size)
  have r2 := Lib.hid ((Rd.of_own O2.out).below D5)
  have r5 : Hid (Rd w5 v5 (xs ++ leB k n)) := Rd.of_own (n := xs.length + (leB k n).length) (by simpa using own5)
  have rb := Lib.hid (HR.out.below B5)
  have l5 := Lib.hid ((HL1.out.below hb2).below D5)
  clear own5 g5 hb2 D3 D4 D5
  refine (same_yes v2 v5 (xs ++ leB k n) _ r2.out r5.out).mono ?_
  rintro e w6 ⟨rfl, n4, rfl⟩
  go_wp2_with (fail)
  have hnum := number_any (.slice A k c) (xs.take k) (w5.drewN n4) (rb.out.take hkl) (by simp; omega)
  refine hnum.mono ?_
  rintro e w7 ⟨rfl, rfl⟩
  go_wp2_with (fail)
  refine (kept_any g _ xs (w5.drewN n4) (l5.out) (rb.out) (by omega)).mono ?_
  rintro e w7 ⟨rfl, n5, rfl⟩
  go_wp2_with (fail)
  refine (awake_any _).mono ?_
  rintro e w8 ⟨rfl, hb8⟩
  go_wp2_with (fail)
  go_ret
  exact ⟨rfl, (below_drewN B5 (n4 + n5)).trans (hb8.mono B5.size)⟩

theorem walk (v : Value) (xs : List UInt8) (n k : Int) (w : World) (h : Rd w v xs) (hn : (Lit.int .u64 n).wf = true) (_ : (Lit.int .i64 k).wf = true) :
    Calls Try.prog 3 #[v, .int .u64 n, .int .i64 k] w fun e w' => e = .returned (.bool true) ∧ Below w.heap.size w w' := by
  have hb := bounds_u64 hn
  obtain ⟨N, rfl⟩ := Int.eq_ofNat_of_zero_le hb.1
  by_cases hl : 2000 < xs.length
  · exact walk_long v xs _ k w h hl
  · by_cases hw : isW k = true
    · have hk : 1 ≤ k ∧ k ≤ 8 := by simpa [isW] using hw
      obtain ⟨K, rfl⟩ := Int.eq_ofNat_of_zero_le (show 0 ≤ k by omega)
      by_cases hkl : K ≤ xs.length
      · exact walk_full v xs N K w h (by omega) hb.2 (by omega) (by omega) hkl
      · exact walk_short v xs N K w h (by omega) hb.2 (by omega) (by omega) (by omega)
    · exact walk_no v xs N k w h (by omega) (by simpa using hw)

theorem own : ownKnob Try.prog.godebug = none := by kernel_rfl
theorem laidOut : laidOutB Try.prog = true := by kernel_rfl

set_option maxRecDepth 100000 in
theorem lifted (os : Os) (started : os.Started) (H : Type) (enc : TypeId × Value → H) :
    ReturnsInHanded {} Try.checked os 3 .any (Rows.numFormsSpec.pre6 enc Try.prog Try.f3 Rows.numFormsRow.domain false) (Rows.numFormsSpec.post enc Try.prog Try.f3 false true false false) := by
  refine returnsInHanded_of_change (C := Try.checked) own started (by kernel_rfl) Try.func3
    (ChangeSpec.witness6 (enc := enc) (C := Try.checked) false ⟨#[], #[.slice none 0 0, .int .u64 0, .int .i64 0], []⟩ 8 (by kernel_rfl) (by kernel_rfl) (by kernel_rfl) (by kernel_rfl)) ?_
  intro W base args ds gs before hval0 hW hcnd _
  have hval : ∀ (j : Nat) t v, Try.f3.params[j]? = some t → args[j]? = some v → Value.okWide Try.prog W .any base t v := hval0
  have hW' := hW
  obtain ⟨p, q, hA0, hV, rfl, hfz, hnd⟩ := hW
  have hA : DataW.TrodAll enc Try.prog W 0 (fun _ => true) true Try.f3.params.toList args.toList ds p := hA0
  rw [Try.params3] at hA hval
  obtain ⟨v0, vs0, dd0, ds0, p0, q0, hargs, rfl, rfl, h0, r0⟩ := trodAll_cons hA
  obtain ⟨v1, vs1, dd1, ds1, p1, q1, rfl, rfl, rfl, h1, r1⟩ := trodAll_cons r0
  obtain ⟨v2, vs2, dd2, ds2, p2, q2, rfl, rfl, rfl, h2, r2⟩ := trodAll_cons r1
  obtain ⟨rfl, rfl, rfl⟩ := trodAll_nil r2
  obtain rfl : args = #[v0, v1, v2] := by cases args; simp_all
  obtain ⟨rfl, rfl⟩ := trodVars_none hV
  obtain ⟨A0, n0, c0, rfl⟩ := okWide_slice Try.underlying22 (hval 0 22 v0 rfl rfl)
  have g0 := h0
  have lt0 : ∀ x ∈ p0, x.block < W.heap.size := by obtain ⟨m, hm⟩ := g0; exact DataW.trod_lt m _ _ _ hm
  obtain ⟨x0, k0⟩ : ∃ xs, Rd W (.slice A0 n0 c0) xs := by
    obtain ⟨fuel, hf⟩ := h0
    rcases open_ints Try.underlying22 Try.underlying5 (by kernel_rfl) hf with ⟨hcs, _⟩ | ⟨x, l, c, zs, hcs, _, hl, hm, hz, _, hcell, hwz⟩
    · simp [Value.cells] at hcs
      obtain ⟨rfl, rfl, rfl⟩ := hcs
      exact ⟨[], Rd.nil W⟩
    · simp [Value.cells] at hcs
      obtain ⟨rfl, rfl, rfl⟩ := hcs
      exact rd_of_row hl hm (by simpa using hz) hcell hwz
  obtain ⟨a1, rfl, rfl, rfl, k1⟩ := open_int Try.underlying23 (hval 1 23 v1 rfl rfl) h1
  obtain ⟨a2, rfl, rfl, rfl, k2⟩ := open_int Try.underlying3 (hval 2 3 v2 rfl rfl) h2
  clear hA0 hval0
  refine (walk _ x0 a1 a2 W k0 k1 k2).mono fun e W' ⟨he, bel⟩ => ?_
  subst he
  exact ⟨_, rfl, _, _, _, [], _, [], hW', trodAll_mk1 (shut_bool Try.underlying4 _), (trodAll_cons_mk (Below.trod laidOut (by kernel_rfl) (of_decide_eq_true (by kernel_rfl)) g0 bel lt0) (trodAll_cons_mk (shut_int Try.underlying23 k1) (trodAll_cons_mk (shut_int Try.underlying3 k2) trodAll_mk0))), rfl, bel.frame _, fun h => by cases h⟩

theorem over : Rows.numFormsRow.holds Try.pinned (OpenSpec.ofChange Rows.numFormsSpec) :=
  OpenClaim.holds_of_wide 3 Try.f3 rfl rfl rfl rfl rfl rfl rfl ⟨rfl, rfl, rfl, rfl, rfl⟩ rfl rfl rfl rfl rfl (by kernel_rfl) Try.func3 (by kernel_rfl)
    (of_decide_eq_true (by kernel_rfl)) (by unfold Func.isWrapper; first | (rw [if_pos (by decide +kernel)]; kernel_rfl) | (rw [if_neg (by decide +kernel)]; exact ⟨rfl, rfl⟩))
    (fun os started H enc _ => lifted os started H enc)

theorem proved : Rows.NumFormsSaid := over
#print axioms proved
end Go.Proofs.Ytenmdogalnhbjaa.numForms
