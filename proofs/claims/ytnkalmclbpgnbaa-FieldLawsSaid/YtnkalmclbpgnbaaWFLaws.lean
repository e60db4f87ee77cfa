/- The walk of 'FieldLaws' (law 7): products don't hang on the order, nor on what is put together first; they go through sums; what is divided by what it was multiplied by is as it was. Premises: the contracts of field's Build, Mul and Div. -/
import Derived.Test.YtnkalmclbpgnbaaFieldC
namespace Go.Proofs.Ytnkalmclbpgnbaa.fieldLaws
open Go.RowKit

set_option maxRecDepth 100000 in
set_option maxHeartbeats 2000000 in
theorem walkC (HB : BuildC) (HM : MulC) (HD : DivC) (a0 a1 a2 : Int) (w : World) (k0 : (Lit.int .u8 a0).wf = true) (k1 : (Lit.int .u8 a1).wf = true) (k2 : (Lit.int .u8 a2).wf = true) :
    Calls Try.prog 5 #[.int .u8 a0, .int .u8 a1, .int .u8 a2] w fun e w' => e = .returned (.bool true) ∧ Below w.heap.size w w' := by
  have b0 := bounds_u8 k0
  have b1 := bounds_u8 k1
  have b2 := bounds_u8 k2
  obtain ⟨a, rfl⟩ : ∃ m : Nat, a0 = (m : Int) := ⟨a0.toNat, by omega⟩
  obtain ⟨b, rfl⟩ : ∃ m : Nat, a1 = (m : Int) := ⟨a1.toNat, by omega⟩
  obtain ⟨c, rfl⟩ : ∃ m : Nat, a2 = (m : Int) := ⟨a2.toNat, by omega⟩
  have ha : a < 256 := by omega
  have hb : b < 256 := by omega
  have hc : c < 256 := by omega
  have hbc : b ^^^ c < 256 := Nat.xor_lt_two_pow (n := 8) hb hc
  obtain ⟨p, hp⟩ : ∃ p, p = gmul a b := ⟨_, rfl⟩
  obtain ⟨r, hr⟩ : ∃ r, r = gmul b c := ⟨_, rfl⟩
  obtain ⟨q, hq⟩ : ∃ q, q = gmul a r := ⟨_, rfl⟩
  obtain ⟨t, ht⟩ : ∃ t, t = gmul a c := ⟨_, rfl⟩
  have hpl : p < 256 := by rw [hp]; exact gmul_lt ha hb
  have hrl : r < 256 := by rw [hr]; exact gmul_lt hb hc
  have htl : t < 256 := by rw [ht]; exact gmul_lt ha hc
  have x1 : bits .xor .u8 (b : Int) (c : Int) = ((b ^^^ c : Nat) : Int) := u8_xor_nat b c hb hc
  have x2 : bits .xor .u8 (p : Int) (t : Int) = ((p ^^^ t : Nat) : Int) := u8_xor_nat p t hpl htl
  have MU : ∀ (B x y z : Nat), x < 256 → y < 256 → gmul x y = z → Hid (∀ W, Tab W B → Calls Try.prog 13 #[.pointer (some ⟨B, 0, none⟩), .int .u8 (x : Int), .int .u8 (y : Int)] W fun e W' => e = .returned (.int .u8 (z : Int)) ∧ ∃ m, W' = W.drewN m) := fun B x y z hx hy hz => Lib.hid fun W hT => hz ▸ HM B x y W hT hx hy
  go_enter Try.func5, Try.ntmps5
  go_wp2_with (fail)
  refine (HB w).mono ?_
  rintro e W0 ⟨B, rfl, hT, hb1⟩
  have T0 := Lib.hid hT
  have D0 := Lib.hid hb1
  have C1 := MU B a b p ha hb hp.symm
  have C2 := MU B b a p hb ha (by rw [hp]; exact gmul_comm hb ha)
  have C3 := MU B p c q hpl hc (by rw [hq, hr, hp]; exact gmul_assoc ha hb hc)
  have C4 := MU B b c r hb hc hr.symm
  have C5 := MU B a r q ha hrl hq.symm
  have C6 := MU B a (b ^^^ c) (p ^^^ t) ha hbc (by rw [hp, ht]; exact gmul_right a b c)
  have C7 := MU B a c t ha hc ht.symm
  have C8 := MU B a 1 a ha (by decide) (gmul_one ha)
  have CD : Hid (∀ W, Tab W B → Calls Try.prog 12 #[.pointer (some ⟨B, 0, none⟩), .int .u8 (p : Int), .int .u8 (b : Int)] W fun e W' => e = .returned (.tuple #[.int .u8 (gmul p (ginv b) : Nat), .int .i64 (if b = 0 then 1 else 0)]) ∧ ∃ m, W' = W.drewN m) := Lib.hid fun W hT => HD B p b W hT hpl hb
  have HG : Hid (b ≠ 0 → gmul p (ginv b) = a) := Lib.hid (fun h0 => by rw [hp]; exact gmul_back ha hb h0)
  have HAB : Hid (a < 256 ∧ b < 256) := Lib.hid ⟨ha, hb⟩
  clear hT hb1 hp hr hq ht ha hb hc hbc hpl hrl htl k0 k1 k2
  go_wp2_with (fail)
  refine (C1.out W0 T0.out).mono ?_
  rintro e w' ⟨rfl, m, rfl⟩
  obtain ⟨W1, hW⟩ : ∃ W : World, W = W0.drewN m := ⟨_, rfl⟩
  have T1 : Hid (Tab W1 B) := Lib.hid (by rw [hW]; exact T0.out.drewN m)
  have D1 : Hid (Below w.heap.size w W1) := Lib.hid (by rw [hW]; exact below_drewN D0.out m)
  rw [← hW]
  clear hW T0 D0
  go_wp2_with (fail)
  refine (C2.out W1 T1.out).mono ?_
  rintro e w' ⟨rfl, m, rfl⟩
  obtain ⟨W2, hW⟩ : ∃ W : World, W = W1.drewN m := ⟨_, rfl⟩
  have T2 : Hid (Tab W2 B) := Lib.hid (by rw [hW]; exact T1.out.drewN m)
  have D2 : Hid (Below w.heap.size w W2) := Lib.hid (by rw [hW]; exact below_drewN D1.out m)
  rw [← hW]
  clear hW T1 D1
  go_wp2_with (fail)
  refine (C1.out W2 T2.out).mono ?_
  rintro e w' ⟨rfl, m, rfl⟩
  obtain ⟨W3, hW⟩ : ∃ W : World, W = W2.drewN m := ⟨_, rfl⟩
  have T3 : Hid (Tab W3 B) := Lib.hid (by rw [hW]; exact T2.out.drewN m)
  have D3 : Hid (Below w.heap.size w W3) := Lib.hid (by rw [hW]; exact below_drewN D2.out m)
  rw [← hW]
  clear hW T2 D2
  go_wp2_with (fail)
  refine (C3.out W3 T3.out).mono ?_
  rintro e w' ⟨rfl, m, rfl⟩
  obtain ⟨W4, hW⟩ : ∃ W : World, W = W3.drewN m := ⟨_, rfl⟩
  have T4 : Hid (Tab W4 B) := Lib.hid (by rw [hW]; exact T3.out.drewN m)
  have D4 : Hid (Below w.heap.size w W4) := Lib.hid (by rw [hW]; exact below_drewN D3.out m)
  rw [← hW]
  clear hW T3 D3
  go_wp2_with (fail)
  refine (C4.out W4 T4.out).mono ?_
  rintro e w' ⟨rfl, m, rfl⟩
  obtain ⟨W5, hW⟩ : ∃ W : World, W = W4.drewN m := ⟨_, rfl⟩
  have T5 : Hid (Tab W5 B) := Lib.hid (by rw [hW]; exact T4.out.drewN m)
  have D5 : Hid (Below w.heap.size w W5) := Lib.hid (by rw [hW]; exact below_drewN D4.out m)
  rw [← hW]
  clear hW T4 D4
  go_wp2_with (fail)
  refine (C5.out W5 T5.out).mono ?_
  rintro e w' ⟨rfl, m, rfl⟩
  obtain ⟨W6, hW⟩ : ∃ W : World, W = W5.drewN m := ⟨_, rfl⟩
  have T6 : Hid (Tab W6 B) := Lib.hid (by rw [hW]; exact T5.out.drewN m)
  have D6 : Hid (Below w.heap.size w W6) := Lib.hid (by rw [hW]; exact below_drewN D5.out m)
  rw [← hW]
  clear hW T5 D5
  go_wp2_with (fail)
  refine (C6.out W6 T6.out).mono ?_
  rintro e w' ⟨rfl, m, rfl⟩
  obtain ⟨W7, hW⟩ : ∃ W : World, W = W6.drewN m := ⟨_, rfl⟩
  have T7 : Hid (Tab W7 B) := Lib.hid (by rw [hW]; exact T6.out.drewN m)
  have D7 : Hid (Below w.heap.size w W7) := Lib.hid (by rw [hW]; exact below_drewN D6.out m)
  rw [← hW]
  clear hW T6 D6
  go_wp2_with (fail)
  refine (C1.out W7 T7.out).mono ?_
  rintro e w' ⟨rfl, m, rfl⟩
  obtain ⟨W8, hW⟩ : ∃ W : World, W = W7.drewN m := ⟨_, rfl⟩
  have T8 : Hid (Tab W8 B) := Lib.hid (by rw [hW]; exact T7.out.drewN m)
  have D8 : Hid (Below w.heap.size w W8) := Lib.hid (by rw [hW]; exact below_drewN D7.out m)
  rw [← hW]
  clear hW T7 D7
  go_wp2_with (fail)
  refine (C7.out W8 T8.out).mono ?_
  rintro e w' ⟨rfl, m, rfl⟩
  obtain ⟨W9, hW⟩ : ∃ W : World, W = W8.drewN m := ⟨_, rfl⟩
  have T9 : Hid (Tab W9 B) := Lib.hid (by rw [hW]; exact T8.out.drewN m)
  have D9 : Hid (Below w.heap.size w W9) := Lib.hid (by rw [hW]; exact below_drewN D8.out m)
  rw [← hW]
  clear hW T8 D8
  go_wp2_with (fail)
  refine (C8.out W9 T9.out).mono ?_
  rintro e w' ⟨rfl, m, rfl⟩
  obtain ⟨W10, hW⟩ : ∃ W : World, W = W9.drewN m := ⟨_, rfl⟩
  have T10 : Hid (Tab W10 B) := Lib.hid (by rw [hW]; exact T9.out.drewN m)
  have D10 : Hid (Below w.heap.size w W10) := Lib.hid (by rw [hW]; exact below_drewN D9.out m)
  rw [← hW]
  clear hW T9 D9
  go_wp2_with (fail)
  refine (C1.out W10 T10.out).mono ?_
  rintro e w' ⟨rfl, m, rfl⟩
  obtain ⟨W11, hW⟩ : ∃ W : World, W = W10.drewN m := ⟨_, rfl⟩
  have T11 : Hid (Tab W11 B) := Lib.hid (by rw [hW]; exact T10.out.drewN m)
  have D11 : Hid (Below w.heap.size w W11) := Lib.hid (by rw [hW]; exact below_drewN D10.out m)
  rw [← hW]
  clear hW T10 D10
  go_wp2_with (fail)
  refine (CD.out W11 T11.out).mono ?_
  rintro e w' ⟨rfl, m, rfl⟩
  by_cases h0 : b = 0
  · subst h0
    rw [if_pos rfl]
    go_wp2_with (fail)
    refine (fieldAwake_any HB HM _).mono ?_
    rintro e w9 ⟨rfl, hb9⟩
    go_wp2_with (fail)
    go_ret
    exact ⟨rfl, (below_drewN D11.out m).trans (hb9.mono D11.out.size)⟩
  · have h0I : (b : Int) ≠ 0 := by omega
    rw [if_neg h0, HG.out h0]
    go_wp2_with (fail)
    refine (fieldAwake_any HB HM _).mono ?_
    rintro e w9 ⟨rfl, hb9⟩
    go_wp2_with (fail)
    go_ret
    exact ⟨rfl, (below_drewN D11.out m).trans (hb9.mono D11.out.size)⟩
end Go.Proofs.Ytnkalmclbpgnbaa.fieldLaws
