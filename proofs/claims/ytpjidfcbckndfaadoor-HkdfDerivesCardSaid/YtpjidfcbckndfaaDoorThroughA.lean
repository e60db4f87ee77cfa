/- sha's through: the loop of the rounds. Conditions: words that fit uint32; the table of the rounds as it is laid. -/
import Derived.Test.YtpjidfcbckndfaaDoorSpread
namespace Go.Proofs.YtpjidfcbckndfaaDoor
open Go.RowKit

noncomputable def body_thr : Code := (((Tryd.f31.body.map loopsOf).getD [])[0]?).getD .skip
/-- The table of the rounds' words lies where the program has it. -/
def Salts (w : World) : Prop := 0 < w.heap.size ∧ ∀ i (h : i < kT.length), w.cell? ⟨0, i, none⟩ = some (.int .u32 ((kT[i] : Nat) : Int))
theorem Salts.below {w w' : World} (h : Salts w) (hb : Below w.heap.size w w') : Salts w' := ⟨Nat.lt_of_lt_of_le h.1 hb.size, fun i hi => (hb.cell (p := ⟨0, i, none⟩) h.1).trans (h.2 i hi)⟩
theorem Salts.under {w w' : World} {B : Nat} (h : Salts w) (hb : Below B w w') (hB : 0 < B) : Salts w' := ⟨Nat.lt_of_lt_of_le h.1 hb.size, fun i hi => (hb.cell (p := ⟨0, i, none⟩) hB).trans (h.2 i hi)⟩
theorem Salts.drewN {w : World} (h : Salts w) (n : Nat) : Salts (w.drewN n) := h
theorem Salts.alloc {w : World} (h : Salts w) (o : Obj) : Salts (w.alloc o) := h.below ((Below.refl _ _).alloc (Nat.le_refl _) o)
theorem not_nat {e : Nat} (h : e < 4294967296) : 4294967295 ^^^ e = 4294967295 - e := by
  apply Nat.eq_of_testBit_eq
  intro i
  have h1 : (4294967295 : Nat) - e = 2 ^ 32 - (e + 1) := by omega
  rw [h1, Nat.testBit_two_pow_sub_succ (by simpa using h), Nat.testBit_xor, show (4294967295 : Nat) = 2 ^ 32 - 1 by rfl, Nat.testBit_two_pow_sub_one]
  by_cases hi : i < 32
  · simp [hi]
  · have h3 : (2 : Nat) ^ 32 ≤ 2 ^ i := Nat.pow_le_pow_right (by decide) (by omega)
    have h2 : e.testBit i = false := Nat.testBit_lt_two_pow (Nat.lt_of_lt_of_le h h3)
    simp [hi, h2]
theorem not_bits {e : Nat} (h : e < 4294967296) : bits .xor .u32 4294967295 (e : Int) = ((4294967295 - e : Nat) : Int) := by
  have h1 := u32_xor_nat 4294967295 e (by omega) h
  rw [not_nat h] at h1
  exact h1
theorem ch_bits' {e f g : Nat} (he : e < 4294967296) (hf : f < 4294967296) (hg : g < 4294967296) : bits .xor .u32 (bits .and .u32 (e : Int) (f : Int)) (bits .and .u32 (bits .xor .u32 IntKind.u32.max (e : Int)) (g : Int)) = ((chN e f g : Nat) : Int) := by
  have hm : IntKind.u32.max = 4294967295 := by decide
  rw [hm]
  rw [not_bits he, u32_and_nat _ _ he hf, u32_and_nat _ _ (by omega) hg, u32_xor_nat _ _ (and_lt32 he) (and_lt32 (by omega))]; rfl
def ThrRel (s : St) (ws : List Nat) (w : World) (a b c d e f g h i : Value) (wr : World) : Prop :=
  ∃ j n : Nat, i = .int .i64 (j : Int) ∧ j ≤ 64 ∧ wr = w.drewN n ∧ a = wv (rnds s ws j).a ∧ b = wv (rnds s ws j).b ∧ c = wv (rnds s ws j).c ∧ d = wv (rnds s ws j).d ∧ e = wv (rnds s ws j).e ∧ f = wv (rnds s ws j).f ∧ g = wv (rnds s ws j).g ∧ h = wv (rnds s ws j).h
theorem thrRel_mk {s : St} {ws : List Nat} {w : World} {j n : Nat} {t : St} (hj : j ≤ 64) (ht : rnds s ws j = t) : ThrRel s ws w (wv t.a) (wv t.b) (wv t.c) (wv t.d) (wv t.e) (wv t.f) (wv t.g) (wv t.h) (.int .i64 (j : Int)) (w.drewN n) := by
  subst ht
  exact ⟨j, n, rfl, hj, rfl, rfl, rfl, rfl, rfl, rfl, rfl, rfl, rfl⟩
set_option maxRecDepth 100000 in
set_option maxHeartbeats 2000000 in
theorem thr_loop (c0 c1 c2 c3 c4 c14 c15 c16 c17 c18 c19 c20 c21 c22 c23 c24 c25 c26 c27 c28 c29 c30 c31 c32 c33 c34 c35 c36 c38 c39 c40 c41 c42 c43 c44 c45 c46 c47 c48 c49 c50 c51 c52 c53 c54 c55 c56 c57 c58 c59 c60 c61 c62 c63 c64 c65 c66 c67 c68 c69 c70 c71 c72 c73 c74 c75 c76 c77 c78 c79 c80 c81 c82 c83 c84 c85 c86 c87 c88 c89 c90 c91 c92 c93 c94 c95 c96 c97 c98 c99 c100 c101 c102 c103 c104 c105 c106 c107 c108 c109 c110 c111 c112 c113 c114 c115 c116 c117 c118 c119 c120 c121 c122 c123 c124 c125 c126 c127 c128 c129 c130 c131 c132 c133 c134 : Value) (s : St) (hs : Hid s.ok) (ws : List Nat) (HWS : Hid (ws.length = 64 ∧ ∀ x ∈ ws, x < 4294967296)) (w : World) (X : Nat) (hX : Hid (Blk w X 63 (ws.map wv))) (hk : Hid (Salts w)) {Q : Exit → Act → World → Prop}
    (HQ : Hid (∀ (u14 u15 u16 u17 u18 u37 u38 u39 u40 u41 u42 u43 u44 u45 u46 u47 u48 u49 u50 u51 u52 u53 u54 u55 u56 u57 u58 u59 u60 u61 u62 u63 u64 u65 u66 u67 u68 u69 u70 u71 u72 u73 u74 u75 u76 u77 u78 u79 u80 u81 u82 u83 u84 u85 u86 u87 u88 u89 u90 u91 u92 u93 u94 u95 u96 u97 u98 u99 u100 u101 : Value) (n : Nat) (t : St), Hid (t = rnds s ws 64) → Q (.exit 0) ⟨List.toArray (c0 :: c1 :: c2 :: c3 :: c4 :: (.pointer (some ⟨X, 0, none⟩)) :: (wv t.a) :: (wv t.b) :: (wv t.c) :: (wv t.d) :: (wv t.e) :: (wv t.f) :: (wv t.g) :: (wv t.h) :: u14 :: u15 :: u16 :: u17 :: u18 :: c19 :: c20 :: c21 :: c22 :: c23 :: c24 :: c25 :: c26 :: c27 :: c28 :: c29 :: c30 :: c31 :: c32 :: c33 :: c34 :: c35 :: c36 :: u37 :: u38 :: u39 :: u40 :: u41 :: u42 :: u43 :: u44 :: u45 :: u46 :: u47 :: u48 :: u49 :: u50 :: u51 :: u52 :: u53 :: u54 :: u55 :: u56 :: u57 :: u58 :: u59 :: u60 :: u61 :: u62 :: u63 :: u64 :: u65 :: u66 :: u67 :: u68 :: u69 :: u70 :: u71 :: u72 :: u73 :: u74 :: u75 :: u76 :: u77 :: u78 :: u79 :: u80 :: u81 :: u82 :: u83 :: u84 :: u85 :: u86 :: u87 :: u88 :: u89 :: u90 :: u91 :: u92 :: u93 :: u94 :: u95 :: u96 :: u97 :: u98 :: u99 :: u100 :: u101 :: c102 :: c103 :: c104 :: c105 :: c106 :: c107 :: c108 :: c109 :: c110 :: c111 :: c112 :: c113 :: c114 :: c115 :: c116 :: c117 :: c118 :: c119 :: c120 :: c121 :: c122 :: c123 :: c124 :: c125 :: c126 :: c127 :: c128 :: c129 :: c130 :: c131 :: c132 :: c133 :: c134 :: []), []⟩ (w.drewN n))) :
    (Code.loop body_thr).wp Tryd.prog Q ⟨List.toArray (c0 :: c1 :: c2 :: c3 :: c4 :: (.pointer (some ⟨X, 0, none⟩)) :: (wv s.a) :: (wv s.b) :: (wv s.c) :: (wv s.d) :: (wv s.e) :: (wv s.f) :: (wv s.g) :: (wv s.h) :: c14 :: c15 :: c16 :: c17 :: c18 :: c19 :: c20 :: c21 :: c22 :: c23 :: c24 :: c25 :: c26 :: c27 :: c28 :: c29 :: c30 :: c31 :: c32 :: c33 :: c34 :: c35 :: c36 :: (.int .i64 0) :: c38 :: c39 :: c40 :: c41 :: c42 :: c43 :: c44 :: c45 :: c46 :: c47 :: c48 :: c49 :: c50 :: c51 :: c52 :: c53 :: c54 :: c55 :: c56 :: c57 :: c58 :: c59 :: c60 :: c61 :: c62 :: c63 :: c64 :: c65 :: c66 :: c67 :: c68 :: c69 :: c70 :: c71 :: c72 :: c73 :: c74 :: c75 :: c76 :: c77 :: c78 :: c79 :: c80 :: c81 :: c82 :: c83 :: c84 :: c85 :: c86 :: c87 :: c88 :: c89 :: c90 :: c91 :: c92 :: c93 :: c94 :: c95 :: c96 :: c97 :: c98 :: c99 :: c100 :: c101 :: c102 :: c103 :: c104 :: c105 :: c106 :: c107 :: c108 :: c109 :: c110 :: c111 :: c112 :: c113 :: c114 :: c115 :: c116 :: c117 :: c118 :: c119 :: c120 :: c121 :: c122 :: c123 :: c124 :: c125 :: c126 :: c127 :: c128 :: c129 :: c130 :: c131 :: c132 :: c133 :: c134 :: []), []⟩ w := by
  unfold body_thr
  conv => arg 2; arg 1; whnf
  go_loopw [6, 7, 8, 9, 10, 11, 12, 13, 37] (fun a b c d e f g h i wx => ThrRel s ws w a b c d e f g h i wx) (fun _ _ _ _ _ _ _ _ i _ => 64 - (intOf i).toNat)
  case atStart => exact thrRel_mk (j := 0) (n := 0) (by omega) rfl
  case round =>
    obtain ⟨j, n, rfl, hj, rfl, rfl, rfl, rfl, rfl, rfl, rfl, rfl, rfl⟩ := hrel
    have hok := rnds_ok hs.out ws j
    obtain ⟨⟨a, b, c, d, e, f, g, p⟩, ht⟩ : ∃ t, t = rnds s ws j := ⟨_, rfl⟩
    rw [← ht] at hok ⊢
    obtain ⟨oa, ob, oc, od, oe, of, og, oh⟩ := hok
    have HT := Lib.hid ht
    simp only at oa ob oc od oe of og oh ⊢
    clear ht
    by_cases hlt3 : j < 64
    · have hI : (j : Int) < 64 := by omega
      obtain ⟨kj, hkj, hkc, hkl⟩ : ∃ kj : Nat, kT.getD j 0 = kj ∧ w.cell? ⟨0, j, none⟩ = some (.int .u32 (kj : Int)) ∧ (kj : Int) ≤ 4294967295 := by
        have h1 : j < kT.length := hlt3
        exact ⟨kT[j], by simp [h1], hk.out.2 j h1, by have := kT_lt _ (List.getElem_mem h1); omega⟩
      obtain ⟨wj, hwj, hwc, hwl⟩ : ∃ wj : Nat, ws.getD j 0 = wj ∧ w.cell? ⟨X, j, none⟩ = some (.int .u32 (wj : Int)) ∧ (wj : Int) ≤ 4294967295 := by
        have h1 : j < ws.length := by have := HWS.out.1; omega
        refine ⟨ws[j], by simp [h1], ?_, by have := HWS.out.2 _ (List.getElem_mem h1); omega⟩
        rw [hX.out.cell j, List.getElem?_map, List.getElem?_eq_getElem h1]
        rfl
      have HN : Hid (rnds s ws (j + 1) = rnd ⟨a, b, c, d, e, f, g, p⟩ kj wj) := by
        show rnds s ws (j + 1) = _
        rw [rnds, ← HT.out, hkj, hwj]
      have T6 := Lib.hid fun w => turned_k e 6 6 rfl w (by omega) (by omega)
      have T11 := Lib.hid fun w => turned_k e 11 11 rfl w (by omega) (by omega)
      have T25 := Lib.hid fun w => turned_k e 25 25 rfl w (by omega) (by omega)
      have T2 := Lib.hid fun w => turned_k a 2 2 rfl w (by omega) (by omega)
      have T13 := Lib.hid fun w => turned_k a 13 13 rfl w (by omega) (by omega)
      have T22 := Lib.hid fun w => turned_k a 22 22 rfl w (by omega) (by omega)
      have E1 := Sg1_bits oe
      have E2 := Sg0_bits oa
      have E3 := ch_bits' oe of og
      have E4 := maj_bits oa ob oc
      have ia : (a : Int) ≤ 4294967295 := by omega
      have ie : (e : Int) ≤ 4294967295 := by omega
      clear hkj hwj
      unfold wv
      go_wp2_with (fail)
      go_quiet (first
        | (go_at_call 35; with_reducible exact quiet_add (T6.out _))
        | (go_at_call 35; with_reducible exact quiet_add (T11.out _))
        | (go_at_call 35; with_reducible exact quiet_add (T25.out _)))
      go_wp2_with (first
        | (go_at_call 35; with_reducible refine (T2.out _).mono ?_; rintro _ _ ⟨rfl, m1, rfl⟩)
        | (go_at_call 35; with_reducible refine (T13.out _).mono ?_; rintro _ _ ⟨rfl, m2, rfl⟩)
        | (go_at_call 35; with_reducible refine (T22.out _).mono ?_; rintro _ _ ⟨rfl, m3, rfl⟩))
      go_roundw
      case rel =>
        have ea : (((p : Int) + (Sg1 e : Nat) + (chN e f g : Nat) + (kj : Int) + (wj : Int)) % 4294967296 + ((Sg0 a : Nat) + (majN a b c : Nat) : Int) % 4294967296) % 4294967296 = (((rnd ⟨a, b, c, d, e, f, g, p⟩ kj wj).a : Nat) : Int) := by
          simp only [rnd, St.t, St.u]; omega
        have ed : ((d : Int) + ((p : Int) + (Sg1 e : Nat) + (chN e f g : Nat) + (kj : Int) + (wj : Int)) % 4294967296) % 4294967296 = (((rnd ⟨a, b, c, d, e, f, g, p⟩ kj wj).e : Nat) : Int) := by
          simp only [rnd, St.t]; omega
        rw [ea, ed]
        exact thrRel_mk (j := j + 1) (by omega) HN.out
      case measure => simp [intOf]; omega
    · obtain rfl : j = 64 := by omega
      go_wp2_with (fail)
      exact HQ.out _ _ _ _ _ _ _ _ _ _ _ _ _ _ _ _ _ _ _ _ _ _ _ _ _ _ _ _ _ _ _ _ _ _ _ _ _ _ _ _ _ _ _ _ _ _ _ _ _ _ _ _ _ _ _ _ _ _ _ _ _ _ _ _ _ _ _ _ _ _ _ ⟨a, b, c, d, e, f, g, p⟩ HT
end Go.Proofs.YtpjidfcbckndfaaDoor
