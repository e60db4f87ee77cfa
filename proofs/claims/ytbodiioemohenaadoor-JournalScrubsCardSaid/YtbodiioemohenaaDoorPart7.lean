/- Part 7 of the words that the laws share: ThroughA, Through, EndA, OutWord, SumOutA. No condition of its own: each theorem says its own. -/
import Derived.Test.YtbodiioemohenaaDoorPart6
import Derived.Test.YtbodiioemohenaaDoorPart2

/- sha's through: the loop of the rounds. Conditions: words that fit uint32; the table of the rounds as it is laid. -/
namespace Go.Proofs.YtbodiioemohenaaDoor
open Go.RowKit

noncomputable def body_thr : Code := (((Tryd.f82.body.map loopsOf).getD [])[0]?).getD .skip
/-- The table of the rounds' words lies where the program has it. -/
def Salts (w : World) : Prop := 0 < w.heap.size ∧ ∀ i (h : i < kT.length), w.cell? ⟨0, i, none⟩ = some (.int .u32 ((kT[i] : Nat) : Int))
theorem Salts.below {w w' : World} (h : Salts w) (hb : Below w.heap.size w w') : Salts w' := ⟨Nat.lt_of_lt_of_le h.1 hb.size, fun i hi => (hb.cell (p := ⟨0, i, none⟩) h.1).trans (h.2 i hi)⟩
theorem Salts.under {w w' : World} {B : Nat} (h : Salts w) (hb : Below B w w') (hB : 0 < B) : Salts w' := ⟨Nat.lt_of_lt_of_le h.1 hb.size, fun i hi => (hb.cell (p := ⟨0, i, none⟩) hB).trans (h.2 i hi)⟩
theorem Salts.drewN {w : World} (h : Salts w) (n : Nat) : Salts (w.drewN n) := h
theorem Salts.alloc {w : World} (h : Salts w) (o : Obj) : Salts (w.alloc o) := h.below ((Below.refl _ _).alloc (Nat.le_refl _) o)
theorem not_nat {e : Nat} (h : e < 4294967296) : 4294967295 ^^^ e = 4294967295 - e := by
  apply Nat.eq_of_testBit_eq
  intro i
  have h1 : (4294967295 : Nat) - e = 2 ^ 32 - (e + 1) := by omega
  rw [h1, Nat.testBit_two_pow_sub_succ (by simpa using h), Nat.testBit_xor, show (4294967295 : Nat) = 2 ^ 32 - 1 by rfl, Nat.testBit_two_pow_sub_one]
  by_cases hi : i < 32
  · simp [hi]
  · have h3 : (2 : Nat) ^ 32 ≤ 2 ^ i := Nat.pow_le_pow_right (by decide) (by omega)
    have h2 : e.testBit i = false := Nat.testBit_lt_two_pow (Nat.lt_of_lt_of_le h h3)
    simp [hi, h2]
theorem not_bits {e : Nat} (h : e < 4294967296) : bits .xor .u32 4294967295 (e : Int) = ((4294967295 - e : Nat) : Int) := by
  have h1 := u32_xor_nat 4294967295 e (by omega) h
  rw [not_nat h] at h1
  exact h1
theorem ch_bits' {e f g : Nat} (he : e < 4294967296) (hf : f < 4294967296) (hg : g < 4294967296) : bits .xor .u32 (bits .and .u32 (e : Int) (f : Int)) (bits .and .u32 (bits .xor .u32 IntKind.u32.max (e : Int)) (g : Int)) = ((chN e f g : Nat) : Int) := by
  have hm : IntKind.u32.max = 4294967295 := by decide
  rw [hm]
  rw [not_bits he, u32_and_nat _ _ he hf, u32_and_nat _ _ (by omega) hg, u32_xor_nat _ _ (and_lt32 he) (and_lt32 (by omega))]; rfl
def ThrRel (s : St) (ws : List Nat) (w : World) (a b c d e f g h i : Value) (wr : World) : Prop :=
  ∃ j n : Nat, i = .int .i64 (j : Int) ∧ j ≤ 64 ∧ wr = w.drewN n ∧ a = wv (rnds s ws j).a ∧ b = wv (rnds s ws j).b ∧ c = wv (rnds s ws j).c ∧ d = wv (rnds s ws j).d ∧ e = wv (rnds s ws j).e ∧ f = wv (rnds s ws j).f ∧ g = wv (rnds s ws j).g ∧ h = wv (rnds s ws j).h
theorem thrRel_mk {s : St} {ws : List Nat} {w : World} {j n : Nat} {t : St} (hj : j ≤ 64) (ht : rnds s ws j = t) : ThrRel s ws w (wv t.a) (wv t.b) (wv t.c) (wv t.d) (wv t.e) (wv t.f) (wv t.g) (wv t.h) (.int .i64 (j : Int)) (w.drewN n) := by
  subst ht
  exact ⟨j, n, rfl, hj, rfl, rfl, rfl, rfl, rfl, rfl, rfl, rfl, rfl⟩
set_option maxRecDepth 100000 in
set_option maxHeartbeats 2000000 in
theorem thr_loop (c0 c1 c2 c3 c4 c14 c15 c16 c17 c18 c19 c20 c21 c22 c23 c24 c25 c26 c27 c28 c29 c30 c31 c32 c33 c34 c35 c36 c38 c39 c40 c41 c42 c43 c44 c45 c46 c47 c48 c49 c50 c51 c52 c53 c54 c55 c56 c57 c58 c59 c60 c61 c62 c63 c64 c65 c66 c67 c68 c69 c70 c71 c72 c73 c74 c75 c76 c77 c78 c79 c80 c81 c82 c83 c84 c85 c86 c87 c88 c89 c90 c91 c92 c93 c94 c95 c96 c97 c98 c99 c100 c101 c102 c103 c104 c105 c106 c107 c108 c109 c110 c111 c112 c113 c114 c115 c116 c117 c118 c119 c120 c121 c122 c123 c124 c125 c126 c127 c128 c129 c130 c131 c132 c133 c134 : Value) (s : St) (hs : Hid s.ok) (ws : List Nat) (HWS : Hid (ws.length = 64 ∧ ∀ x ∈ ws, x < 4294967296)) (w : World) (X : Nat) (hX : Hid (Blk w X 140 (ws.map wv))) (hk : Hid (Salts w)) {Q : Exit → Act → World → Prop}
    (HQ : Hid (∀ (u14 u15 u16 u17 u18 u37 u38 u39 u40 u41 u42 u43 u44 u45 u46 u47 u48 u49 u50 u51 u52 u53 u54 u55 u56 u57 u58 u59 u60 u61 u62 u63 u64 u65 u66 u67 u68 u69 u70 u71 u72 u73 u74 u75 u76 u77 u78 u79 u80 u81 u82 u83 u84 u85 u86 u87 u88 u89 u90 u91 u92 u93 u94 u95 u96 u97 u98 u99 u100 u101 : Value) (n : Nat) (t : St), Hid (t = rnds s ws 64) → Q (.exit 0) ⟨List.toArray (c0 :: c1 :: c2 :: c3 :: c4 :: (.pointer (some ⟨X, 0, none⟩)) :: (wv t.a) :: (wv t.b) :: (wv t.c) :: (wv t.d) :: (wv t.e) :: (wv t.f) :: (wv t.g) :: (wv t.h) :: u14 :: u15 :: u16 :: u17 :: u18 :: c19 :: c20 :: c21 :: c22 :: c23 :: c24 :: c25 :: c26 :: c27 :: c28 :: c29 :: c30 :: c31 :: c32 :: c33 :: c34 :: c35 :: c36 :: u37 :: u38 :: u39 :: u40 :: u41 :: u42 :: u43 :: u44 :: u45 :: u46 :: u47 :: u48 :: u49 :: u50 :: u51 :: u52 :: u53 :: u54 :: u55 :: u56 :: u57 :: u58 :: u59 :: u60 :: u61 :: u62 :: u63 :: u64 :: u65 :: u66 :: u67 :: u68 :: u69 :: u70 :: u71 :: u72 :: u73 :: u74 :: u75 :: u76 :: u77 :: u78 :: u79 :: u80 :: u81 :: u82 :: u83 :: u84 :: u85 :: u86 :: u87 :: u88 :: u89 :: u90 :: u91 :: u92 :: u93 :: u94 :: u95 :: u96 :: u97 :: u98 :: u99 :: u100 :: u101 :: c102 :: c103 :: c104 :: c105 :: c106 :: c107 :: c108 :: c109 :: c110 :: c111 :: c112 :: c113 :: c114 :: c115 :: c116 :: c117 :: c118 :: c119 :: c120 :: c121 :: c122 :: c123 :: c124 :: c125 :: c126 :: c127 :: c128 :: c129 :: c130 :: c131 :: c132 :: c133 :: c134 :: []), []⟩ (w.drewN n))) :
    (Code.loop body_thr).wp Tryd.prog Q ⟨List.toArray (c0 :: c1 :: c2 :: c3 :: c4 :: (.pointer (some ⟨X, 0, none⟩)) :: (wv s.a) :: (wv s.b) :: (wv s.c) :: (wv s.d) :: (wv s.e) :: (wv s.f) :: (wv s.g) :: (wv s.h) :: c14 :: c15 :: c16 :: c17 :: c18 :: c19 :: c20 :: c21 :: c22 :: c23 :: c24 :: c25 :: c26 :: c27 :: c28 :: c29 :: c30 :: c31 :: c32 :: c33 :: c34 :: c35 :: c36 :: (.int .i64 0) :: c38 :: c39 :: c40 :: c41 :: c42 :: c43 :: c44 :: c45 :: c46 :: c47 :: c48 :: c49 :: c50 :: c51 :: c52 :: c53 :: c54 :: c55 :: c56 :: c57 :: c58 :: c59 :: c60 :: c61 :: c62 :: c63 :: c64 :: c65 :: c66 :: c67 :: c68 :: c69 :: c70 :: c71 :: c72 :: c73 :: c74 :: c75 :: c76 :: c77 :: c78 :: c79 :: c80 :: c81 :: c82 :: c83 :: c84 :: c85 :: c86 :: c87 :: c88 :: c89 :: c90 :: c91 :: c92 :: c93 :: c94 :: c95 :: c96 :: c97 :: c98 :: c99 :: c100 :: c101 :: c102 :: c103 :: c104 :: c105 :: c106 :: c107 :: c108 :: c109 :: c110 :: c111 :: c112 :: c113 :: c114 :: c115 :: c116 :: c117 :: c118 :: c119 :: c120 :: c121 :: c122 :: c123 :: c124 :: c125 :: c126 :: c127 :: c128 :: c129 :: c130 :: c131 :: c132 :: c133 :: c134 :: []), []⟩ w := by
  unfold body_thr
  conv => arg 2; arg 1; whnf
  go_loopw [6, 7, 8, 9, 10, 11, 12, 13, 37] (fun a b c d e f g h i wx => ThrRel s ws w a b c d e f g h i wx) (fun _ _ _ _ _ _ _ _ i _ => 64 - (intOf i).toNat)
  case atStart => exact thrRel_mk (j := 0) (n := 0) (by omega) rfl
  case round =>
    obtain ⟨j, n, rfl, hj, rfl, rfl, rfl, rfl, rfl, rfl, rfl, rfl, rfl⟩ := hrel
    have hok := rnds_ok hs.out ws j
    obtain ⟨⟨a, b, c, d, e, f, g, p⟩, ht⟩ : ∃ t, t = rnds s ws j := ⟨_, rfl⟩
    rw [← ht] at hok ⊢
    obtain ⟨oa, ob, oc, od, oe, of, og, oh⟩ := hok
    have HT := Lib.hid ht
    simp only at oa ob oc od oe of og oh ⊢
    clear ht
    by_cases hlt3 : j < 64
    · have hI : (j : Int) < 64 := by omega
      obtain ⟨kj, hkj, hkc, hkl⟩ : ∃ kj : Nat, kT.getD j 0 = kj ∧ w.cell? ⟨0, j, none⟩ = some (.int .u32 (kj : Int)) ∧ (kj : Int) ≤ 4294967295 := by
        have h1 : j < kT.length := hlt3
        exact ⟨kT[j], by simp [h1], hk.out.2 j h1, by have := kT_lt _ (List.getElem_mem h1); omega⟩
      obtain ⟨wj, hwj, hwc, hwl⟩ : ∃ wj : Nat, ws.getD j 0 = wj ∧ w.cell? ⟨X, j, none⟩ = some (.int .u32 (wj : Int)) ∧ (wj : Int) ≤ 4294967295 := by
        have h1 : j < ws.length := by have := HWS.out.1; omega
        refine ⟨ws[j], by simp [h1], ?_, by have := HWS.out.2 _ (List.getElem_mem h1); omega⟩
        rw [hX.out.cell j, List.getElem?_map, List.getElem?_eq_getElem h1]
        rfl
      have HN : Hid (rnds s ws (j + 1) = rnd ⟨a, b, c, d, e, f, g, p⟩ kj wj) := by
        show rnds s ws (j + 1) = _
        rw [rnds, ← HT.out, hkj, hwj]
      have T6 := Lib.hid fun w => turned_k e 6 6 rfl w (by omega) (by omega)
      have T11 := Lib.hid fun w => turned_k e 11 11 rfl w (by omega) (by omega)
      have T25 := Lib.hid fun w => turned_k e 25 25 rfl w (by omega) (by omega)
      have T2 := Lib.hid fun w => turned_k a 2 2 rfl w (by omega) (by omega)
      have T13 := Lib.hid fun w => turned_k a 13 13 rfl w (by omega) (by omega)
      have T22 := Lib.hid fun w => turned_k a 22 22 rfl w (by omega) (by omega)
      have E1 := Sg1_bits oe
      have E2 := Sg0_bits oa
      have E3 := ch_bits' oe of og
      have E4 := maj_bits oa ob oc
      have ia : (a : Int) ≤ 4294967295 := by omega
      have ie : (e : Int) ≤ 4294967295 := by omega
      clear hkj hwj
      unfold wv
      go_wp2_with (fail)
      go_quiet (first
        | (go_at_call 94; with_reducible exact quiet_add (T6.out _))
        | (go_at_call 94; with_reducible exact quiet_add (T11.out _))
        | (go_at_call 94; with_reducible exact quiet_add (T25.out _)))
      go_wp2_with (first
        | (go_at_call 94; with_reducible refine (T2.out _).mono ?_; rintro _ _ ⟨rfl, m1, rfl⟩)
        | (go_at_call 94; with_reducible refine (T13.out _).mono ?_; rintro _ _ ⟨rfl, m2, rfl⟩)
        | (go_at_call 94; with_reducible refine (T22.out _).mono ?_; rintro _ _ ⟨rfl, m3, rfl⟩))
      go_roundw
      case rel =>
        have ea : (((p : Int) + (Sg1 e : Nat) + (chN e f g : Nat) + (kj : Int) + (wj : Int)) % 4294967296 + ((Sg0 a : Nat) + (majN a b c : Nat) : Int) % 4294967296) % 4294967296 = (((rnd ⟨a, b, c, d, e, f, g, p⟩ kj wj).a : Nat) : Int) := by
          simp only [rnd, St.t, St.u]; omega
        have ed : ((d : Int) + ((p : Int) + (Sg1 e : Nat) + (chN e f g : Nat) + (kj : Int) + (wj : Int)) % 4294967296) % 4294967296 = (((rnd ⟨a, b, c, d, e, f, g, p⟩ kj wj).e : Nat) : Int) := by
          simp only [rnd, St.t]; omega
        rw [ea, ed]
        exact thrRel_mk (j := j + 1) (by omega) HN.out
      case measure => simp [intOf]; omega
    · obtain rfl : j = 64 := by omega
      go_wp2_with (fail)
      exact HQ.out _ _ _ _ _ _ _ _ _ _ _ _ _ _ _ _ _ _ _ _ _ _ _ _ _ _ _ _ _ _ _ _ _ _ _ _ _ _ _ _ _ _ _ _ _ _ _ _ _ _ _ _ _ _ _ _ _ _ _ _ _ _ _ _ _ _ _ _ _ _ _ ⟨a, b, c, d, e, f, g, p⟩ HT
end Go.Proofs.YtbodiioemohenaaDoor

/- The contract of sha's through: the words behind one more block. Conditions: a block of 64 bytes; words that fit uint32; the table of the rounds as it is laid. -/
namespace Go.Proofs.YtbodiioemohenaaDoor
open Go.RowKit

/-- The words behind one more block. -/
def goOn (s : St) (bs : List UInt8) : St := s.add (rnds s (spreadN bs) 64)
def stV (s : St) : Value := wordsV s.list
set_option maxRecDepth 100000 in
set_option maxHeartbeats 400000 in
theorem through_any (s : St) (b : Nat) (bs : List UInt8) (w : World) (hs : s.ok) (hb : Blk w b 129 (bs.map bv)) (hl : bs.length = 64) (hk : Salts w) :
    Calls Tryd.prog 82 #[stV s, .pointer (some ⟨b, 0, none⟩)] w fun e w' => e = .returned (stV (goOn s bs)) ∧ Below w.heap.size w w' := by
  obtain ⟨sa, sb, sc, sd, se, sf, sg, sh⟩ := s
  have HOK := Lib.hid hs
  have HB := Lib.hid hb
  have HL := Lib.hid hl
  have HK := Lib.hid hk
  have HLN : Hid (((spreadN bs).map wv).length = 64) := by show ((spreadN bs).map wv).length = 64; rw [List.length_map, spreadN_length]
  have HI : Hid ((Tryd.prog.info? 140).map (·.size) = some 64) := by show _ = _; kernel_rfl
  clear hs hb hl hk
  unfold stV wordsV
  change Calls _ _ #[.agg #[.int .u32 (sa : Int), .int .u32 (sb : Int), .int .u32 (sc : Int), .int .u32 (sd : Int), .int .u32 (se : Int), .int .u32 (sf : Int), .int .u32 (sg : Int), .int .u32 (sh : Int)], .pointer (some ⟨b, 0, none⟩)] _ _
  go_enter Tryd.func82, Tryd.ntmps82
  go_wp2_with (fail)
  refine (spread_any b bs _ ?_ HL.out).mono ?_
  · exact ((HB.out.alloc _).alloc _)
  rintro e w1 ⟨rfl, hb1⟩
  have D1 := Lib.hid hb1
  have HM := Lib.hid (Blk.made w1 140 (List.replicate 64 (Value.int .u32 0)))
  clear hb1
  go_wp2_with (refine wpList_store_blk rfl 140 _ _ rfl w1.heap.size 140 _ HM.out ((spreadN bs).map wv) rfl rfl (by rw [HLN.out]; rfl) (by rw [HLN.out]; exact HI.out) (wv_one _) ?_; intro w2 hb2 hs2)
  have HX : Blk w2 w.heap.size 127 [.int .u32 (sa : Int), .int .u32 (sb : Int), .int .u32 (sc : Int), .int .u32 (sd : Int), .int .u32 (se : Int), .int .u32 (sf : Int), .int .u32 (sg : Int), .int .u32 (sh : Int)] := by
    have h := (((Blk.made w 127 [.int .u32 (sa : Int), .int .u32 (sb : Int), .int .u32 (sc : Int), .int .u32 (sd : Int), .int .u32 (se : Int), .int .u32 (sf : Int), .int .u32 (sg : Int), .int .u32 (sh : Int)]).alloc _).below D1.out (by simp; omega)).alloc (.cells (List.replicate 64 (Value.int .u32 0)).toArray 140)
    have hlt := D1.out.size
    simp at hlt
    exact hs2.blk h (by omega)
  have hr2 : Blk w2 (w.heap.size + 1) 127 (List.replicate 8 (Value.int .u32 0)) := by
    have h0 := Blk.made (w.alloc (.cells #[.int .u32 (sa : Int), .int .u32 (sb : Int), .int .u32 (sc : Int), .int .u32 (sd : Int), .int .u32 (se : Int), .int .u32 (sf : Int), .int .u32 (sg : Int), .int .u32 (sh : Int)] 127)) 127 (List.replicate 8 (Value.int .u32 0))
    simp only [World.size_alloc] at h0
    have h := (h0.below D1.out (by simp)).alloc (.cells (List.replicate 64 (Value.int .u32 0)).toArray 140)
    have hlt := D1.out.size
    simp at hlt
    exact hs2.blk h (by omega)
  have HR2 := Lib.hid hr2
  have x0 : w2.cell? ⟨w.heap.size, 0, none⟩ = some (.int .u32 (sa : Int)) := HX.cell 0
  have x1 : w2.cell? ⟨w.heap.size, 1, none⟩ = some (.int .u32 (sb : Int)) := HX.cell 1
  have x2 : w2.cell? ⟨w.heap.size, 2, none⟩ = some (.int .u32 (sc : Int)) := HX.cell 2
  have x3 : w2.cell? ⟨w.heap.size, 3, none⟩ = some (.int .u32 (sd : Int)) := HX.cell 3
  have x4 : w2.cell? ⟨w.heap.size, 4, none⟩ = some (.int .u32 (se : Int)) := HX.cell 4
  have x5 : w2.cell? ⟨w.heap.size, 5, none⟩ = some (.int .u32 (sf : Int)) := HX.cell 5
  have x6 : w2.cell? ⟨w.heap.size, 6, none⟩ = some (.int .u32 (sg : Int)) := HX.cell 6
  have x7 : w2.cell? ⟨w.heap.size, 7, none⟩ = some (.int .u32 (sh : Int)) := HX.cell 7
  have D2 : Below w.heap.size w w2 := ((((Below.refl _ _).alloc (Nat.le_refl _) _).alloc (by simp) _).trans (D1.out.mono (by simp; omega))).trans (((Below.refl _ _).alloc (by have := D1.out.size; simp at this; omega) _).trans (hs2.below.mono (by have := D1.out.size; simp at this; omega)))
  have HD2 := Lib.hid D2
  have HB2 := Lib.hid hb2
  have HK2 := Lib.hid (HK.out.below D2)
  have hok := HOK.out
  clear HX hr2 D2 hb2 hs2 D1 HM HI HLN HB
  go_quiet (fail)
  go_wp2_with (fail)
  refine thr_loop _ _ _ _ _ _ _ _ _ _ _ _ _ _ _ _ _ _ _ _ _ _ _ _ _ _ _ _ _ _ _ _ _ _ _ _ _ _ _ _ _ _ _ _ _ _ _ _ _ _ _ _ _ _ _ _ _ _ _ _ _ _ _ _ _ _ _ _ _ _ _ _ _ _ _ _ _ _ _ _ _ _ _ _ _ _ _ _ _ _ _ _ _ _ _ _ _ _ _ _ _ _ _ _ _ _ _ _ _ _ _ _ _ _ _ _ _ _ _ _ _ _ _ _ _ ⟨sa, sb, sc, sd, se, sf, sg, sh⟩ (Lib.hid hok) (spreadN bs) (Lib.hid ⟨spreadN_length bs, spreadN_lt bs⟩) _ w1.heap.size (Lib.hid (HB2.out.drewN _)) (Lib.hid (HK2.out.drewN _)) (Lib.hid ?_)
  intro u14 u15 u16 u17 u18 u37 u38 u39 u40 u41 u42 u43 u44 u45 u46 u47 u48 u49 u50 u51 u52 u53 u54 u55 u56 u57 u58 u59 u60 u61 u62 u63 u64 u65 u66 u67 u68 u69 u70 u71 u72 u73 u74 u75 u76 u77 u78 u79 u80 u81 u82 u83 u84 u85 u86 u87 u88 u89 u90 u91 u92 u93 u94 u95 u96 u97 u98 u99 u100 u101 n t ht
  have tok : t.ok := by rw [ht.out]; exact rnds_ok hok _ 64
  obtain ⟨ta, tb, tc, td, te, tf, tg, th⟩ := t
  obtain ⟨o1, o2, o3, o4, o5, o6, o7, o8⟩ := hok
  obtain ⟨p1, p2, p3, p4, p5, p6, p7, p8⟩ := tok
  simp only at o1 o2 o3 o4 o5 o6 o7 o8 p1 p2 p3 p4 p5 p6 p7 p8
  unfold wv
  dsimp only
  obtain ⟨w3, hw3⟩ : ∃ W : World, W = (w2.drewN nq).drewN n := ⟨_, rfl⟩
  have y0 : w3.cell? ⟨w.heap.size, 0, none⟩ = some (.int .u32 (sa : Int)) := hw3 ▸ x0
  have y1 : w3.cell? ⟨w.heap.size, 1, none⟩ = some (.int .u32 (sb : Int)) := hw3 ▸ x1
  have y2 : w3.cell? ⟨w.heap.size, 2, none⟩ = some (.int .u32 (sc : Int)) := hw3 ▸ x2
  have y3 : w3.cell? ⟨w.heap.size, 3, none⟩ = some (.int .u32 (sd : Int)) := hw3 ▸ x3
  have y4 : w3.cell? ⟨w.heap.size, 4, none⟩ = some (.int .u32 (se : Int)) := hw3 ▸ x4
  have y5 : w3.cell? ⟨w.heap.size, 5, none⟩ = some (.int .u32 (sf : Int)) := hw3 ▸ x5
  have y6 : w3.cell? ⟨w.heap.size, 6, none⟩ = some (.int .u32 (sg : Int)) := hw3 ▸ x6
  have y7 : w3.cell? ⟨w.heap.size, 7, none⟩ = some (.int .u32 (sh : Int)) := hw3 ▸ x7
  have HR3 : Hid (Blk w3 (w.heap.size + 1) 127 (List.replicate 8 (Value.int .u32 0))) := Lib.hid (hw3 ▸ HR2.out)
  have HD3 : Hid (Below w.heap.size w w3) := Lib.hid (hw3 ▸ below_drewN (below_drewN HD2.out nq) n)
  rw [← hw3]
  clear hw3 x0 x1 x2 x3 x4 x5 x6 x7
  have HI8 : Hid ((Tryd.prog.info? 127).map (·.size) = some 8) := by show _ = _; kernel_rfl
  go_wp2_with (refine wpList_store_blk rfl 127 _ _ rfl (w.heap.size + 1) 127 _ HR3.out [Value.int .u32 (((sa : Int) + (ta : Int)) % 4294967296), Value.int .u32 (((sb : Int) + (tb : Int)) % 4294967296), Value.int .u32 (((sc : Int) + (tc : Int)) % 4294967296), Value.int .u32 (((sd : Int) + (td : Int)) % 4294967296), Value.int .u32 (((se : Int) + (te : Int)) % 4294967296), Value.int .u32 (((sf : Int) + (tf : Int)) % 4294967296), Value.int .u32 (((sg : Int) + (tg : Int)) % 4294967296), Value.int .u32 (((sh : Int) + (th : Int)) % 4294967296)] rfl rfl rfl HI8.out (by simp [Value.oneCell']) ?_; intro w9 hb9 hs9)
  have e : ∀ x y : Nat, Value.int .u32 (((x : Int) + (y : Int)) % 4294967296) = wv ((x + y) % 4294967296) := fun x y => congrArg (Value.int .u32) (by omega)
  have hg : goOn ⟨sa, sb, sc, sd, se, sf, sg, sh⟩ bs = St.add ⟨sa, sb, sc, sd, se, sf, sg, sh⟩ ⟨ta, tb, tc, td, te, tf, tg, th⟩ := by unfold goOn; rw [ht.out]
  simp only [e] at hb9
  rw [hg]
  refine bodyPost_ret ?_ rfl ⟨rfl, HD3.out.trans (hs9.below.mono (by omega))⟩
  exact results_blk (ty := 127) Tryd.results82 _ w9 (w.heap.size + 1) 127 ((St.add ⟨sa, sb, sc, sd, se, sf, sg, sh⟩ ⟨ta, tb, tc, td, te, tf, tg, th⟩).list.map wv) _ rfl hb9 Tryd.underlying127 rfl HI8.out
end Go.Proofs.YtbodiioemohenaaDoor

/- sha's end: the loop that lays the number of bits into the block's last eight bytes. No condition of its own. -/
namespace Go.Proofs.YtbodiioemohenaaDoor
open Go.RowKit

/-- The block behind j stores of the loop. -/
def endC (cs : List UInt8) (n j : Nat) : List UInt8 := cs.take (64 - j) ++ beB j n
theorem endC_length {cs : List UInt8} (h : cs.length = 64) (n : Nat) {j : Nat} (hj : j ≤ 64) : (endC cs n j).length = 64 := by simp [endC, beB_length]; omega
theorem endC_set {cs : List UInt8} (h : cs.length = 64) (n : Nat) {j : Nat} (hj : j < 64) : (endC cs n j).set (63 - j) (UInt8.ofNat (n / 256 ^ j % 256)) = endC cs n (j + 1) := by
  unfold endC
  rw [beB_cons, show 64 - j = (63 - j) + 1 by omega, List.take_succ_eq_append_getElem (by omega), List.append_assoc, List.set_append_right _ _ (by simp; omega)]
  have e : 63 - j - (cs.take (63 - j)).length = 0 := by simp; omega
  rw [e, show 64 - (j + 1) = 63 - j by omega]
  rfl
theorem endC_zero {cs : List UInt8} (h : cs.length = 64) (n : Nat) : endC cs n 0 = cs := by
  unfold endC
  rw [List.take_of_length_le (by omega)]
  simp [beB]
def FinRel (cs : List UInt8) (n : Nat) (w : World) (S : Nat) (v : Value) (wr : World) : Prop :=
  ∃ j : Nat, v = .int .i64 (j : Int) ∧ j ≤ 8 ∧ Blk wr S 129 ((endC cs n j).map bv) ∧ Sole w wr S
noncomputable def body_fin : Code := (((Tryd.f83.body.map loopsOf).getD [])[0]?).getD .skip
set_option maxRecDepth 100000 in
set_option maxHeartbeats 1000000 in
theorem fin_loop (c0 c1 c2 c3 c4 c6 c7 c8 c10 c11 c12 c13 c14 c15 c16 c17 c18 c19 c20 c21 c22 c24 c25 c26 c27 c28 c29 c30 c31 c32 c33 c34 c35 c36 : Value) (cs : List UInt8) (hcs : Hid (cs.length = 64)) (n : Nat) (_hn : (n : Int) ≤ 18446744073709551615) (w : World) (S : Nat) (h0 : Hid (Blk w S 129 (cs.map bv))) {Q : Exit → Act → World → Prop}
    (HQ : Hid (∀ (u10 u24 u25 u26 u27 u28 u29 u30 u31 u32 u33 u34 : Value) (wx : World), Hid (Blk wx S 129 ((endC cs n 8).map bv)) → Hid (Sole w wx S) → Q (.exit 0) ⟨List.toArray (c0 :: c1 :: c2 :: c3 :: c4 :: (.pointer (some ⟨S, 0, none⟩)) :: c6 :: c7 :: c8 :: (.int .u64 (n : Int)) :: u10 :: c11 :: c12 :: c13 :: c14 :: c15 :: c16 :: c17 :: c18 :: c19 :: c20 :: c21 :: c22 :: (.int .i64 8) :: u24 :: u25 :: u26 :: u27 :: u28 :: u29 :: u30 :: u31 :: u32 :: u33 :: u34 :: c35 :: c36 :: []), []⟩ wx)) :
    (Code.loop body_fin).wp Tryd.prog Q ⟨List.toArray (c0 :: c1 :: c2 :: c3 :: c4 :: (.pointer (some ⟨S, 0, none⟩)) :: c6 :: c7 :: c8 :: (.int .u64 (n : Int)) :: c10 :: c11 :: c12 :: c13 :: c14 :: c15 :: c16 :: c17 :: c18 :: c19 :: c20 :: c21 :: c22 :: (.int .i64 0) :: c24 :: c25 :: c26 :: c27 :: c28 :: c29 :: c30 :: c31 :: c32 :: c33 :: c34 :: c35 :: c36 :: []), []⟩ w := by
  unfold body_fin
  conv => arg 2; arg 1; whnf
  go_loopw [23] (fun v wx => FinRel cs n w S v wx) (fun v _ => 8 - (intOf v).toNat)
  case atStart => exact ⟨0, rfl, by omega, (endC_zero hcs.out n).symm ▸ h0.out, Sole.refl _ _⟩
  case round =>
    obtain ⟨j, rfl, hj, hblk, bl⟩ := hrel
    by_cases hlt : j < 8
    · have hI : (j : Int) < 8 := by omega
      have f0 : wr.frozen? ⟨S, 63 - j, none⟩ = false := hblk.free _
      obtain ⟨u, hu⟩ : ∃ u, wr.cell? ⟨S, 63 - j, none⟩ = some u := by
        refine ⟨((endC cs n j).map bv)[63 - j]'?_, ?_⟩
        · simp [endC_length hcs.out n (show j ≤ 64 by omega)]; omega
        · rw [hblk.cell]; exact List.getElem?_eq_getElem _
      have HB := Lib.hid hblk
      have HL := Lib.hid bl
      have j1 : (63 : Int) - (j : Int) < 64 := by omega
      have j2 : (0 : Int) ≤ 63 - (j : Int) := by omega
      have j3 : ((63 : Int) - (j : Int)).toNat = 63 - j := by omega
      have j4 : ((8 : Int) * (j : Int)).toNat = 8 * j := by omega
      have j5 : (8 : Int) * (j : Int) < 64 := by omega
      clear hblk bl
      go_wp2_with (fail)
      go_roundw
      case rel =>
        have e : Value.int .u8 ((n : Int) / 2 ^ (8 * j) % 256) = bv (UInt8.ofNat (n / 256 ^ j % 256)) := by
          unfold bv
          rw [UInt8.toNat_ofNat', Nat.mod_mod_of_dvd _ (by decide), show (256 : Nat) ^ j = 2 ^ (8 * j) by rw [Nat.pow_mul]]
          exact congrArg (Value.int .u8) (by simp)
        rw [e]
        have h := HB.out.set (63 - j) (bv (UInt8.ofNat (n / 256 ^ j % 256)))
        rw [← List.map_set, endC_set hcs.out n (by omega)] at h
        exact ⟨j + 1, by go_num, by omega, h, HL.out.trans (Sole.setCell _ _ _ _)⟩
      case measure => simp [intOf]; omega
    · obtain rfl : j = 8 := by omega
      have HB := Lib.hid hblk
      have HL := Lib.hid bl
      clear hblk bl
      go_wp2_with (fail)
      exact HQ.out _ _ _ _ _ _ _ _ _ _ _ _ _ HB HL
end Go.Proofs.YtbodiioemohenaaDoor

/- The block of 32 bytes, byte by byte. No condition of its own. -/
namespace Go.Proofs.YtbodiioemohenaaDoor
open Go.RowKit

/-- The block of 32 bytes behind i stores. -/
def outC (bs : List UInt8) (i : Nat) : List Value := (bs.take i).map bv ++ List.replicate (32 - i) (.int .u8 0)
theorem flat_getB (l : List Nat) : ∀ (j : Nat), j < 4 * l.length → (l.flatMap (beB 4))[j]? = (beB 4 (l.getD (j / 4) 0))[j % 4]? := by
  induction l with
  | nil => intro j hj; simp at hj
  | cons x r ih =>
    intro j hj
    rw [List.flatMap_cons]
    have h4 : (beB 4 x).length = 4 := beB_length 4 x
    by_cases h : j < 4
    · rw [List.getElem?_append_left (by omega), show j / 4 = 0 by omega, show j % 4 = j by omega]; rfl
    · rw [List.getElem?_append_right (by omega), h4, ih (j - 4) (by simp at hj; omega), show (j - 4) % 4 = j % 4 by omega, show j / 4 = (j - 4) / 4 + 1 by omega]; rfl
theorem St.bytes_flat (s : St) : s.bytes = s.list.flatMap (beB 4) := by simp [St.bytes, St.list]
theorem St.bytes_length (s : St) : s.bytes.length = 32 := by simp [St.bytes, beB_length]
theorem outC_set {bs : List UInt8} {j : Nat} {c : UInt8} (hj : j < 32) (hb : bs.length = 32) (hc : bs[j]? = some c) : (outC bs j).set j (bv c) = outC bs (j + 1) := by
  have hj' : j < bs.length := by omega
  rw [List.getElem?_eq_getElem hj'] at hc
  unfold outC
  rw [List.take_succ_eq_append_getElem hj', Option.some.inj hc, show 32 - j = (32 - (j + 1)) + 1 by omega, List.replicate_succ, List.map_append, List.set_append_right _ _ (by simp; omega), List.append_assoc]
  have e : j - ((bs.take j).map bv).length = 0 := by simp; omega
  rw [e]
  simp
def OutRel (bs : List UInt8) (w : World) (B : Nat) (i : Value) (wr : World) : Prop :=
  ∃ j : Nat, i = .int .i64 (j : Int) ∧ j ≤ 32 ∧ Blk wr B 104 (outC bs j) ∧ Below B w wr
end Go.Proofs.YtbodiioemohenaaDoor

/- sha's sum: the two loops. Conditions: words that fit uint32. -/
namespace Go.Proofs.YtbodiioemohenaaDoor
open Go.RowKit

theorem byte_shift {n j : Nat} (hj : j < 4) : (beB 4 n)[j]? = some (UInt8.ofNat (n / 2 ^ (8 * (3 - j)) % 256)) := by
  have e : beB 4 n = [UInt8.ofNat (n / 256 / 256 / 256 % 256), UInt8.ofNat (n / 256 / 256 % 256), UInt8.ofNat (n / 256 % 256), UInt8.ofNat (n % 256)] := rfl
  rw [e]
  have h : j = 0 ∨ j = 1 ∨ j = 2 ∨ j = 3 := by omega
  rcases h with rfl | rfl | rfl | rfl
  · simp [Nat.div_div_eq_div_mul]
  · simp [Nat.div_div_eq_div_mul]
  · simp
  · simp
def SinRel (s : St) (i : Nat) (w : World) (S : Nat) (v : Value) (wr : World) : Prop :=
  ∃ j : Nat, v = .int .i64 (j : Int) ∧ j ≤ 4 ∧ Blk wr S 104 (outC s.bytes (4 * i + j)) ∧ Below S w wr
noncomputable def body_sin : Code := (((Tryd.f84.body.map loopsOf).getD [])[1]?).getD .skip
set_option maxRecDepth 100000 in
set_option maxHeartbeats 1000000 in
theorem sin_loop (c0 c1 c2 c6 c7 c8 c9 c10 c11 c13 c14 c15 c16 c17 c18 c19 c20 c21 c22 c23 c24 c25 c26 c27 c28 : Value) (s : St) (hs : Hid s.ok) (i : Nat) (hi : i < 8) (w : World) (S : Nat) (h0 : Hid (Blk w S 104 (outC s.bytes (4 * i)))) {Q : Exit → Act → World → Prop}
    (HQ : Hid (∀ (u6 u13 u14 u15 u16 u17 u18 u19 u20 u21 u22 u23 u24 u25 u26 : Value) (wx : World), Hid (Blk wx S 104 (outC s.bytes (4 * i + 4))) → Hid (Below S w wx) → Q (.exit 2) ⟨List.toArray (c0 :: c1 :: c2 :: (.pointer (some ⟨S, 0, none⟩)) :: (.int .i64 (i : Int)) :: (.int .u32 ((s.list.getD i 0 : Nat) : Int)) :: u6 :: c7 :: c8 :: c9 :: c10 :: c11 :: (.int .i64 4) :: u13 :: u14 :: u15 :: u16 :: u17 :: u18 :: u19 :: u20 :: u21 :: u22 :: u23 :: u24 :: u25 :: u26 :: c27 :: c28 :: []), []⟩ wx)) :
    (Code.loop body_sin).wp Tryd.prog Q ⟨List.toArray (c0 :: c1 :: c2 :: (.pointer (some ⟨S, 0, none⟩)) :: (.int .i64 (i : Int)) :: (.int .u32 ((s.list.getD i 0 : Nat) : Int)) :: c6 :: c7 :: c8 :: c9 :: c10 :: c11 :: (.int .i64 0) :: c13 :: c14 :: c15 :: c16 :: c17 :: c18 :: c19 :: c20 :: c21 :: c22 :: c23 :: c24 :: c25 :: c26 :: c27 :: c28 :: []), []⟩ w := by
  have hiI : (i : Int) < 8 := by omega
  unfold body_sin
  conv => arg 2; arg 1; whnf
  go_loopw [12] (fun v wx => SinRel s i w S v wx) (fun v _ => 4 - (intOf v).toNat)
  case atStart => exact ⟨0, rfl, by omega, h0.out, Below.refl _ _⟩
  case round =>
    obtain ⟨j, rfl, hj, hblk, bl⟩ := hrel
    by_cases hlt : j < 4
    · have hI : (j : Int) < 4 := by omega
      obtain ⟨n, hn⟩ : ∃ n, n = s.list.getD i 0 := ⟨_, rfl⟩
      rw [← hn] at HQ ⊢
      have hil : i < s.list.length := hi
      have n32 : n < 4294967296 := by
        have e : n = s.list[i] := by rw [hn]; simp [hil]
        rw [e]
        exact list_lt hs.out _ (List.getElem_mem hil)
      have hb : s.bytes[4 * i + j]? = some (UInt8.ofNat (n / 2 ^ (8 * (3 - j)) % 256)) := by
        rw [St.bytes_flat, flat_getB s.list _ (by show 4 * i + j < 4 * 8; omega), show (4 * i + j) / 4 = i by omega, show (4 * i + j) % 4 = j by omega, ← hn]
        exact byte_shift hlt
      have HE := Lib.hid (outC_set (bs := s.bytes) (j := 4 * i + j) (by omega) (St.bytes_length s) hb)
      have f0 : wr.frozen? ⟨S, 4 * i + j, none⟩ = false := hblk.free _
      obtain ⟨u, hu⟩ : ∃ u, wr.cell? ⟨S, 4 * i + j, none⟩ = some u := by
        refine ⟨(outC s.bytes (4 * i + j))[4 * i + j]'?_, ?_⟩
        · simp [outC, St.bytes_length]; omega
        · rw [hblk.cell]; exact List.getElem?_eq_getElem _
      have HB := Lib.hid hblk
      have HL := Lib.hid bl
      have n32' : (n : Int) ≤ 4294967295 := by omega
      have j1 : (i : Int) * 4 + (j : Int) < 32 := by omega
      have j2 : (0 : Int) ≤ (3 - (j : Int)) * 8 := by omega
      have j3 : ((i : Int) * 4 + (j : Int)).toNat = 4 * i + j := by omega
      have j4 : ((8 : Int) * (3 - (j : Int))).toNat = 8 * (3 - j) := by omega
      have j5 : (8 : Int) * (3 - (j : Int)) < 32 := by omega
      clear hblk bl hn hb hil
      go_wp2_with (fail)
      go_roundw
      case rel =>
        have e : Value.int .u8 ((n : Int) / 2 ^ (8 * (3 - j)) % 256) = bv (UInt8.ofNat (n / 2 ^ (8 * (3 - j)) % 256)) := by
          unfold bv
          rw [UInt8.toNat_ofNat', Nat.mod_mod_of_dvd _ (by decide)]
          exact congrArg (Value.int .u8) (by simp)
        rw [e]
        have h := HB.out.set (4 * i + j) (bv (UInt8.ofNat (n / 2 ^ (8 * (3 - j)) % 256)))
        rw [HE.out] at h
        exact ⟨j + 1, by go_num, by omega, h, HL.out.setCell (p := ⟨S, 4 * i + j, none⟩) (Nat.le_refl _) _⟩
      case measure => simp [intOf]; omega
    · obtain rfl : j = 4 := by omega
      have HB := Lib.hid hblk
      have HL := Lib.hid bl
      clear hblk bl
      go_wp2_with (fail)
      exact HQ.out _ _ _ _ _ _ _ _ _ _ _ _ _ _ _ _ HB HL
end Go.Proofs.YtbodiioemohenaaDoor
