/- The walk of 'FieldAsks' (law 7): products, inverses, quotients, and values of polynomials are the document's. Premises: the contracts of field's functions. -/
import Derived.Test.YtnkalmclbpgnbaaFieldC
namespace Go.Proofs.Ytnkalmclbpgnbaa.fieldAsks
open Go.RowKit

set_option maxRecDepth 100000 in
set_option maxHeartbeats 2000000 in
theorem walkC (HB : BuildC) (HM : MulC) (HI : InvC) (HD : DivC) (HE : EvalC) (a0 a1 : Int) (v2 : Value) (l : List UInt8) (w : World) (k0 : (Lit.int .u8 a0).wf = true) (k1 : (Lit.int .u8 a1).wf = true) (k2 : Rd w v2 l) :
    Calls Try.prog 4 #[.int .u8 a0, .int .u8 a1, v2] w fun e w' => e = .returned (.bool true) ∧ Below w.heap.size w w' := by
  have b0 := bounds_u8 k0
  have b1 := bounds_u8 k1
  obtain ⟨a, rfl⟩ : ∃ m : Nat, a0 = (m : Int) := ⟨a0.toNat, by omega⟩
  obtain ⟨b, rfl⟩ : ∃ m : Nat, a1 = (m : Int) := ⟨a1.toNat, by omega⟩
  have ha : a < 256 := by omega
  have hb : b < 256 := by omega
  obtain ⟨A2, c2, rfl, _, hc2, _⟩ := k2.form
  have R := Lib.hid k2
  unfold maxLen at hc2
  clear k0 k1 k2
  by_cases hl : 40 < l.length
  · have lI : (40 : Int) < l.length := by omega
    go_enter Try.func4, Try.ntmps4
    go_wp2_with (fail)
    refine (fieldAwake_any HB HM _).mono ?_
    rintro e w9 ⟨rfl, hb9⟩
    go_wp2_with (fail)
    go_ret
    exact ⟨rfl, hb9⟩
  have lI : (l.length : Int) ≤ 40 := by omega
  obtain ⟨x, hx⟩ : ∃ x, x = ginv a := ⟨_, rfl⟩
  obtain ⟨y, hy⟩ : ∃ y, y = gmul b x := ⟨_, rfl⟩
  obtain ⟨p, hp⟩ : ∃ p, p = gmul a b := ⟨_, rfl⟩
  obtain ⟨g, hg⟩ : ∃ g, g = geval l b := ⟨_, rfl⟩
  obtain ⟨E, hE⟩ : ∃ E : Int, E = if a = 0 then 1 else 0 := ⟨_, rfl⟩
  have CI : Hid (∀ B W, Tab W B → Calls Try.prog 11 #[.pointer (some ⟨B, 0, none⟩), .int .u8 (a : Int)] W fun e W' => e = .returned (.tuple #[.int .u8 (x : Int), .int .i64 E]) ∧ ∃ m, W' = W.drewN m) := Lib.hid fun B W hT => by rw [hE, hx]; exact HI B a W hT ha
  have CD : Hid (∀ B W, Tab W B → Calls Try.prog 12 #[.pointer (some ⟨B, 0, none⟩), .int .u8 (b : Int), .int .u8 (a : Int)] W fun e W' => e = .returned (.tuple #[.int .u8 (y : Int), .int .i64 E]) ∧ ∃ m, W' = W.drewN m) := Lib.hid fun B W hT => by rw [hE, hy, hx]; exact HD B b a W hT hb ha
  have CM : Hid (∀ B W, Tab W B → Calls Try.prog 13 #[.pointer (some ⟨B, 0, none⟩), .int .u8 (a : Int), .int .u8 (b : Int)] W fun e W' => e = .returned (.int .u8 (p : Int)) ∧ ∃ m, W' = W.drewN m) := Lib.hid fun B W hT => by rw [hp]; exact HM B a b W hT ha hb
  have CE : Hid (∀ B W, Tab W B → Rd W (.slice A2 l.length c2) l → Calls Try.prog 14 #[.pointer (some ⟨B, 0, none⟩), .slice A2 l.length c2, .int .u8 (b : Int)] W fun e W' => e = .returned (.int .u8 (g : Int)) ∧ ∃ m, W' = W.drewN m) := Lib.hid fun B W hT hR => by rw [hg]; exact HE B _ l b W hT hR (by omega) hb
  have RE : Hid (∀ W, Rd W (.slice A2 l.length c2) l → Calls Try.prog 15 #[.slice A2 l.length c2, .int .u8 (b : Int)] W fun e W' => e = .returned (.int .u8 (g : Int)) ∧ ∃ m, W' = W.drewN m) := Lib.hid fun W hR => by rw [hg]; exact refEvalG_any _ l b W hR hb (by omega)
  have RM : Hid (∀ W, Calls Try.prog 16 #[.int .u8 (a : Int), .int .u8 (b : Int)] W fun e W' => e = .returned (.int .u8 (p : Int)) ∧ ∃ m, W' = W.drewN m) := Lib.hid fun W => by rw [hp]; exact (refMulG_any a b W ha hb).mono fun e W' h => ⟨h.1, 0, h.2.symm⟩
  have RI : Hid (∀ W, Calls Try.prog 17 #[.int .u8 (a : Int)] W fun e W' => e = .returned (.int .u8 (x : Int)) ∧ ∃ m, W' = W.drewN m) := Lib.hid fun W => by rw [hx]; exact (refInvG_any a W ha).mono fun e W' h => ⟨h.1, 0, h.2.symm⟩
  have RY : Hid (∀ W, Calls Try.prog 16 #[.int .u8 (b : Int), .int .u8 (x : Int)] W fun e W' => e = .returned (.int .u8 (y : Int)) ∧ ∃ m, W' = W.drewN m) := Lib.hid fun W => by rw [hy]; exact (refMulG_any b x W hb (by rw [hx]; exact ginv_lt a)).mono fun e W' h => ⟨h.1, 0, h.2.symm⟩
  have HX := Lib.hid hx
  have HY := Lib.hid hy
  have HP := Lib.hid hp
  have HEE := Lib.hid hE
  clear hx hy hp hg hE hl
  go_enter Try.func4, Try.ntmps4
  go_wp2_with (fail)
  refine (HB w).mono ?_
  rintro e W0 ⟨B, rfl, hT, hb1⟩
  have T0 := Lib.hid hT
  have R0 := Lib.hid (R.out.below hb1)
  have D0 := Lib.hid hb1
  clear hT hb1 R
  go_wp2_with (fail)
  refine (CI.out B W0 T0.out).mono ?_
  rintro e w' ⟨rfl, m, rfl⟩
  obtain ⟨W1, hW⟩ : ∃ W : World, W = W0.drewN m := ⟨_, rfl⟩
  have T1 : Hid (Tab W1 B) := Lib.hid (by rw [hW]; exact T0.out.drewN m)
  have R1 : Hid (Rd W1 (.slice A2 l.length c2) l) := Lib.hid (by rw [hW]; exact R0.out.drewN m)
  have D1 : Hid (Below w.heap.size w W1) := Lib.hid (by rw [hW]; exact below_drewN D0.out m)
  rw [← hW]
  clear hW T0 D0 R0
  go_wp2_with (fail)
  refine (CD.out B W1 T1.out).mono ?_
  rintro e w' ⟨rfl, m, rfl⟩
  obtain ⟨W2, hW⟩ : ∃ W : World, W = W1.drewN m := ⟨_, rfl⟩
  have T2 : Hid (Tab W2 B) := Lib.hid (by rw [hW]; exact T1.out.drewN m)
  have R2 : Hid (Rd W2 (.slice A2 l.length c2) l) := Lib.hid (by rw [hW]; exact R1.out.drewN m)
  have D2 : Hid (Below w.heap.size w W2) := Lib.hid (by rw [hW]; exact below_drewN D1.out m)
  rw [← hW]
  clear hW T1 D1 R1
  by_cases h0 : a = 0
  · subst h0
    have eX : x = 0 := by rw [HX.out]; rfl
    have eY : y = 0 := by rw [HY.out, eX]; exact gmul_zero b
    have eP : p = 0 := by rw [HP.out]; exact zero_gmul b
    have eE : E = 1 := by rw [HEE.out]; rfl
    subst eX eY eP eE
    go_wp2_with (fail)
    refine (CM.out B W2 T2.out).mono ?_
    rintro e w' ⟨rfl, m, rfl⟩
    obtain ⟨W3, hW⟩ : ∃ W : World, W = W2.drewN m := ⟨_, rfl⟩
    have T3 : Hid (Tab W3 B) := Lib.hid (by rw [hW]; exact T2.out.drewN m)
    have R3 : Hid (Rd W3 (.slice A2 l.length c2) l) := Lib.hid (by rw [hW]; exact R2.out.drewN m)
    have D3 : Hid (Below w.heap.size w W3) := Lib.hid (by rw [hW]; exact below_drewN D2.out m)
    rw [← hW]
    clear hW T2 D2 R2
    go_wp2_with (fail)
    refine (CE.out B W3 T3.out R3.out).mono ?_
    rintro e w' ⟨rfl, m, rfl⟩
    obtain ⟨W4, hW⟩ : ∃ W : World, W = W3.drewN m := ⟨_, rfl⟩
    have T4 : Hid (Tab W4 B) := Lib.hid (by rw [hW]; exact T3.out.drewN m)
    have R4 : Hid (Rd W4 (.slice A2 l.length c2) l) := Lib.hid (by rw [hW]; exact R3.out.drewN m)
    have D4 : Hid (Below w.heap.size w W4) := Lib.hid (by rw [hW]; exact below_drewN D3.out m)
    rw [← hW]
    clear hW T3 D3 R3
    go_wp2_with (fail)
    refine (RE.out W4 R4.out).mono ?_
    rintro e w' ⟨rfl, m, rfl⟩
    obtain ⟨W5, hW⟩ : ∃ W : World, W = W4.drewN m := ⟨_, rfl⟩
    have T5 : Hid (Tab W5 B) := Lib.hid (by rw [hW]; exact T4.out.drewN m)
    have R5 : Hid (Rd W5 (.slice A2 l.length c2) l) := Lib.hid (by rw [hW]; exact R4.out.drewN m)
    have D5 : Hid (Below w.heap.size w W5) := Lib.hid (by rw [hW]; exact below_drewN D4.out m)
    rw [← hW]
    clear hW T4 D4 R4
    go_wp2_with (fail)
    refine (fieldAwake_any HB HM _).mono ?_
    rintro e w9 ⟨rfl, hb9⟩
    go_wp2_with (fail)
    go_ret
    exact ⟨rfl, D5.out.trans (hb9.mono D5.out.size)⟩
  · have h0I : (a : Int) ≠ 0 := by omega
    have eE : E = 0 := by rw [HEE.out, if_neg h0]
    subst eE
    go_wp2_with (fail)
    refine (CM.out B W2 T2.out).mono ?_
    rintro e w' ⟨rfl, m, rfl⟩
    obtain ⟨W3, hW⟩ : ∃ W : World, W = W2.drewN m := ⟨_, rfl⟩
    have T3 : Hid (Tab W3 B) := Lib.hid (by rw [hW]; exact T2.out.drewN m)
    have R3 : Hid (Rd W3 (.slice A2 l.length c2) l) := Lib.hid (by rw [hW]; exact R2.out.drewN m)
    have D3 : Hid (Below w.heap.size w W3) := Lib.hid (by rw [hW]; exact below_drewN D2.out m)
    rw [← hW]
    clear hW T2 D2 R2
    go_wp2_with (fail)
    refine (RM.out W3).mono ?_
    rintro e w' ⟨rfl, m, rfl⟩
    obtain ⟨W4, hW⟩ : ∃ W : World, W = W3.drewN m := ⟨_, rfl⟩
    have T4 : Hid (Tab W4 B) := Lib.hid (by rw [hW]; exact T3.out.drewN m)
    have R4 : Hid (Rd W4 (.slice A2 l.length c2) l) := Lib.hid (by rw [hW]; exact R3.out.drewN m)
    have D4 : Hid (Below w.heap.size w W4) := Lib.hid (by rw [hW]; exact below_drewN D3.out m)
    rw [← hW]
    clear hW T3 D3 R3
    go_wp2_with (fail)
    refine (RI.out W4).mono ?_
    rintro e w' ⟨rfl, m, rfl⟩
    obtain ⟨W5, hW⟩ : ∃ W : World, W = W4.drewN m := ⟨_, rfl⟩
    have T5 : Hid (Tab W5 B) := Lib.hid (by rw [hW]; exact T4.out.drewN m)
    have R5 : Hid (Rd W5 (.slice A2 l.length c2) l) := Lib.hid (by rw [hW]; exact R4.out.drewN m)
    have D5 : Hid (Below w.heap.size w W5) := Lib.hid (by rw [hW]; exact below_drewN D4.out m)
    rw [← hW]
    clear hW T4 D4 R4
    go_wp2_with (fail)
    refine (RI.out W5).mono ?_
    rintro e w' ⟨rfl, m, rfl⟩
    obtain ⟨W6, hW⟩ : ∃ W : World, W = W5.drewN m := ⟨_, rfl⟩
    have T6 : Hid (Tab W6 B) := Lib.hid (by rw [hW]; exact T5.out.drewN m)
    have R6 : Hid (Rd W6 (.slice A2 l.length c2) l) := Lib.hid (by rw [hW]; exact R5.out.drewN m)
    have D6 : Hid (Below w.heap.size w W6) := Lib.hid (by rw [hW]; exact below_drewN D5.out m)
    rw [← hW]
    clear hW T5 D5 R5
    go_wp2_with (fail)
    refine (RY.out W6).mono ?_
    rintro e w' ⟨rfl, m, rfl⟩
    obtain ⟨W7, hW⟩ : ∃ W : World, W = W6.drewN m := ⟨_, rfl⟩
    have T7 : Hid (Tab W7 B) := Lib.hid (by rw [hW]; exact T6.out.drewN m)
    have R7 : Hid (Rd W7 (.slice A2 l.length c2) l) := Lib.hid (by rw [hW]; exact R6.out.drewN m)
    have D7 : Hid (Below w.heap.size w W7) := Lib.hid (by rw [hW]; exact below_drewN D6.out m)
    rw [← hW]
    clear hW T6 D6 R6
    go_wp2_with (fail)
    refine (CE.out B W7 T7.out R7.out).mono ?_
    rintro e w' ⟨rfl, m, rfl⟩
    obtain ⟨W8, hW⟩ : ∃ W : World, W = W7.drewN m := ⟨_, rfl⟩
    have T8 : Hid (Tab W8 B) := Lib.hid (by rw [hW]; exact T7.out.drewN m)
    have R8 : Hid (Rd W8 (.slice A2 l.length c2) l) := Lib.hid (by rw [hW]; exact R7.out.drewN m)
    have D8 : Hid (Below w.heap.size w W8) := Lib.hid (by rw [hW]; exact below_drewN D7.out m)
    rw [← hW]
    clear hW T7 D7 R7
    go_wp2_with (fail)
    refine (RE.out W8 R8.out).mono ?_
    rintro e w' ⟨rfl, m, rfl⟩
    obtain ⟨W9, hW⟩ : ∃ W : World, W = W8.drewN m := ⟨_, rfl⟩
    have T9 : Hid (Tab W9 B) := Lib.hid (by rw [hW]; exact T8.out.drewN m)
    have R9 : Hid (Rd W9 (.slice A2 l.length c2) l) := Lib.hid (by rw [hW]; exact R8.out.drewN m)
    have D9 : Hid (Below w.heap.size w W9) := Lib.hid (by rw [hW]; exact below_drewN D8.out m)
    rw [← hW]
    clear hW T8 D8 R8
    go_wp2_with (fail)
    refine (fieldAwake_any HB HM _).mono ?_
    rintro e w9 ⟨rfl, hb9⟩
    go_wp2_with (fail)
    go_ret
    exact ⟨rfl, D9.out.trans (hb9.mono D9.out.size)⟩
end Go.Proofs.Ytnkalmclbpgnbaa.fieldAsks
