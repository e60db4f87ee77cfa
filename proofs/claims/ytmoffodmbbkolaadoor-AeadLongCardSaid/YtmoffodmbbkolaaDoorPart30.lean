/- Part 30 of the words that the laws share: LHalf. No condition of its own: each theorem says its own. -/
import Derived.Test.YtmoffodmbbkolaaDoorPart28
import Derived.Test.YtmoffodmbbkolaaDoorPart3
import Derived.Deep.RegionLaw

/- The contract of poly's halves: the two numbers of a key. Conditions: a key of 32 bytes. -/
namespace Go.Proofs.YtmoffodmbbkolaaDoor
open Go.RowKit

/-- Two results, each read out of a block that is known whole. -/
theorem results_blk2 {P : Program} {fn : Func} {p q : Tmp} {ty : TypeId} (h : fn.results = #[.cell p ty, .cell q ty]) (tmps : Array Value) (w : World) (B C : Nat) (t t' : TypeId) (cs ds : List Value) (d : TypeDesc)
    (hp : tmps.getD p undef = .pointer (some ⟨B, 0, none⟩)) (hq : tmps.getD q undef = .pointer (some ⟨C, 0, none⟩)) (hb : Blk w B t cs) (hc : Blk w C t' ds) (hu : P.underlying ty = some d) (hd : (match d with | .struct _ | .array _ _ => true | _ => false) = true) (hi : (P.info? ty).map (·.size) = some cs.length) (hj : (P.info? ty).map (·.size) = some ds.length) :
    (results fn tmps).run P w = .ok (.tuple #[.agg cs.toArray, .agg ds.toArray]) w := by
  have hp' : tmps[p]?.getD undef = .pointer (some ⟨B, 0, none⟩) := by simpa using hp
  have hq' : tmps[q]?.getD undef = .pointer (some ⟨C, 0, none⟩) := by simpa using hq
  simp [results, h, hp', hq', asAddr, run_loadVar_row w B t ty cs.toArray (0, 0) d hb hu hd (by simpa using hi), run_loadVar_row w C t' ty ds.toArray (0, 0) d hc hu hd (by simpa using hj)]
/-- A byte of the first half, where the clamp has come so far. -/
def clF (k : List UInt8) (i j q : Nat) : UInt8 := if q = 16 then 0 else if q % 4 = 3 ∧ q < i then k.getD q 0 &&& 15 else if q % 4 = 0 ∧ 0 < q ∧ q < j then k.getD q 0 &&& 252 else k.getD q 0
def FstP (k : List UInt8) (i j : Nat) (o : List UInt8) : Prop := o.length = 17 ∧ ∀ q, q < 17 → o.getD q 0 = clF k i j q
theorem fst_start {k : List UInt8} (h : k.length = 32) : FstP k 3 4 (k.take 16 ++ [0]) := by
  refine ⟨by simp; omega, fun q hq => ?_⟩
  unfold clF
  rw [if_neg (show ¬ (q % 4 = 3 ∧ q < 3) by omega), if_neg (show ¬ (q % 4 = 0 ∧ 0 < q ∧ q < 4) by omega)]
  have hl : (k.take 16).length = 16 := by rw [List.length_take]; omega
  by_cases e : q = 16
  · subst e
    rw [if_pos rfl, List.getD, List.getElem?_append_right (by omega), hl]
    rfl
  · rw [if_neg e, List.getD, List.getD, List.getElem?_append_left (by omega), List.getElem?_take, if_pos (by omega)]
theorem fst_a {k o : List UInt8} {i j : Nat} (h : FstP k i j o) (hi : i < 16) (h3 : i % 4 = 3) : FstP k (i + 4) j (o.set i (o.getD i 0 &&& 15)) := by
  refine ⟨by rw [List.length_set]; exact h.1, fun q hq => ?_⟩
  have ho := h.2 i (by omega)
  unfold clF at ho
  rw [if_neg (by omega), if_neg (by omega), if_neg (by omega)] at ho
  by_cases e : i = q
  · subst e
    rw [List.getD, List.getElem?_set_self (by rw [h.1]; omega), ho]
    unfold clF
    rw [if_neg (by omega), if_pos (by omega)]
    rfl
  · rw [List.getD, List.getElem?_set_ne e]
    have hq2 := h.2 q hq
    rw [List.getD] at hq2
    rw [hq2]
    unfold clF
    by_cases c1 : q = 16
    · rw [if_pos c1, if_pos c1]
    · rw [if_neg c1, if_neg c1]
      by_cases c2 : q % 4 = 3 ∧ q < i
      · rw [if_pos c2, if_pos (by omega)]
      · have c3 : ¬ (q % 4 = 3 ∧ q < i + 4) := by omega
        rw [if_neg c2, if_neg c3]
theorem fst_b {k o : List UInt8} {i j : Nat} (h : FstP k i j o) (hi : j < 16) (h0 : j % 4 = 0) (h4 : 4 ≤ j) : FstP k i (j + 4) (o.set j (o.getD j 0 &&& 252)) := by
  refine ⟨by rw [List.length_set]; exact h.1, fun q hq => ?_⟩
  have ho := h.2 j (by omega)
  unfold clF at ho
  rw [if_neg (by omega), if_neg (by omega), if_neg (by omega)] at ho
  by_cases e : j = q
  · subst e
    rw [List.getD, List.getElem?_set_self (by rw [h.1]; omega), ho]
    unfold clF
    rw [if_neg (by omega), if_neg (by omega), if_pos (by omega)]
    rfl
  · rw [List.getD, List.getElem?_set_ne e]
    have hq2 := h.2 q hq
    rw [List.getD] at hq2
    rw [hq2]
    unfold clF
    by_cases c1 : q = 16
    · rw [if_pos c1, if_pos c1]
    · rw [if_neg c1, if_neg c1]
      by_cases c2 : q % 4 = 3 ∧ q < i
      · rw [if_pos c2, if_pos c2]
      · rw [if_neg c2, if_neg c2]
        by_cases c3 : q % 4 = 0 ∧ 0 < q ∧ q < j
        · rw [if_pos c3, if_pos (by omega)]
        · rw [if_neg c3, if_neg (by omega)]
set_option maxRecDepth 100000 in
theorem and252 : ∀ c : Nat, c < 256 → c &&& 252 = c / 4 * 4 := by decide
theorem and_u15 (c : UInt8) : c &&& 15 = c % 16 := by
  apply UInt8.toNat_inj.1
  rw [UInt8.toNat_and, UInt8.toNat_mod]
  exact Nat.and_two_pow_sub_one_eq_mod c.toNat 4
theorem and_u252 (c : UInt8) : c &&& 252 = c / 4 * 4 := by
  apply UInt8.toNat_inj.1
  have h := c.toNat_lt
  rw [UInt8.toNat_and, UInt8.toNat_mul, UInt8.toNat_div]
  show c.toNat &&& 252 = c.toNat / 4 * 4 % 2 ^ 8
  rw [and252 _ h]
  omega
theorem fst_end {k o : List UInt8} (h : FstP k 19 16 o) (hk : k.length = 32) : o = rB k ++ [0] := by
  have hl : (rB k).length = 16 := by unfold rB; rw [List.length_mapIdx, List.length_take]; omega
  apply List.ext_getElem
  · rw [h.1, List.length_append, hl]; rfl
  intro q h1 h2
  have hq : q < 17 := by rw [h.1] at h1; exact h1
  have ho := h.2 q hq
  rw [List.getD, List.getElem?_eq_getElem h1] at ho
  have ho2 : o[q] = clF k 19 16 q := ho
  rw [ho2]
  unfold clF
  by_cases e : q = 16
  · subst e
    rw [if_pos rfl, List.getElem_append_right (by omega)]
    simp [hl]
  · rw [if_neg e, List.getElem_append_left (by omega)]
    unfold rB
    rw [List.getElem_mapIdx, List.getElem_take, List.getD, List.getElem?_eq_getElem (by omega)]
    unfold clampC
    by_cases c2 : q % 4 = 3
    · rw [if_pos ⟨c2, by omega⟩, if_pos c2]
      exact and_u15 _
    · rw [if_neg (by omega), if_neg c2]
      by_cases c3 : q % 4 = 0 ∧ 0 < q
      · rw [if_pos (by omega), if_pos c3]
        exact and_u252 _
      · rw [if_neg (by omega), if_neg c3]
        rfl
theorem numB_z (xs : List UInt8) : numB (xs ++ [0]) = numB xs := by rw [numB_snoc]; simp
theorem mask15 (x : UInt8) : Value.int .u8 (bits .and .u8 (x.toNat : Int) 15) = bv (x &&& 15) := by
  have h := u8_and_nat x.toNat 15 x.toNat_lt (by decide)
  unfold bv
  rw [UInt8.toNat_and]
  exact congrArg (Value.int .u8) h
theorem mask252 (x : UInt8) : Value.int .u8 (bits .and .u8 (x.toNat : Int) 252) = bv (x &&& 252) := by
  have h := u8_and_nat x.toNat 252 x.toNat_lt (by decide)
  unfold bv
  rw [UInt8.toNat_and]
  exact congrArg (Value.int .u8) h
theorem bv_cell {w : World} {B : Nat} {t : TypeId} {o : List UInt8} (h : Blk w B t (o.map bv)) {i : Nat} (hi : i < o.length) : w.cell? ⟨B, i, none⟩ = some (.int .u8 ((o.getD i 0).toNat : Int)) := by
  rw [h.cell i, List.getElem?_map, List.getElem?_eq_getElem hi, List.getD, List.getElem?_eq_getElem hi]
  rfl
def HlaRel (w : World) (B : Nat) (k : List UInt8) (v : Value) (W : World) : Prop := ∃ (i : Nat) (o : List UInt8), v = .int .i64 (i : Int) ∧ i % 4 = 3 ∧ i ≤ 19 ∧ FstP k i 4 o ∧ Blk W B 91 (o.map bv) ∧ Sole w W B
noncomputable def body_hla : Code := (((Tryd.f40.body.map loopsOf).getD [])[0]?).getD .skip
set_option maxRecDepth 100000 in
set_option maxHeartbeats 2000000 in
theorem hla_loop (c0 c1 c2 c3 c5 c7 c8 c9 c10 c11 c12 c13 c14 c15 c16 c17 c18 c19 c20 c21 c22 c23 c24 c25 c26 c27 c28 c29 c30 c31 c32 c33 : Value) (B : Nat) (k o0 : List UInt8) (w : World) (hp : Hid (FstP k 3 4 o0)) (h0 : Hid (Blk w B 91 (o0.map bv))) {Q : Exit → Act → World → Prop}
    (HQ : Hid (∀ (u6 u14 u15 u16 u17 u18 u19 u20 u21 u22 : Value) (o : List UInt8) (wx : World), Hid (FstP k 19 4 o) → Hid (Blk wx B 91 (o.map bv)) → Hid (Sole w wx B) → Q (.exit 0) ⟨List.toArray (c0 :: c1 :: c2 :: c3 :: (.pointer (some ⟨B, 0, none⟩)) :: c5 :: u6 :: c7 :: c8 :: c9 :: c10 :: c11 :: c12 :: c13 :: u14 :: u15 :: u16 :: u17 :: u18 :: u19 :: u20 :: u21 :: u22 :: c23 :: c24 :: c25 :: c26 :: c27 :: c28 :: c29 :: c30 :: c31 :: c32 :: c33 :: []), []⟩ wx)) :
    (Code.loop body_hla).wp Tryd.prog Q ⟨List.toArray (c0 :: c1 :: c2 :: c3 :: (.pointer (some ⟨B, 0, none⟩)) :: c5 :: (.int .i64 3) :: c7 :: c8 :: c9 :: c10 :: c11 :: c12 :: c13 :: c14 :: c15 :: c16 :: c17 :: c18 :: c19 :: c20 :: c21 :: c22 :: c23 :: c24 :: c25 :: c26 :: c27 :: c28 :: c29 :: c30 :: c31 :: c32 :: c33 :: []), []⟩ w := by
  unfold body_hla
  conv => arg 2; arg 1; whnf
  go_loopw [6] (fun v wx => HlaRel w B k v wx) (fun v _ => 20 - (intOf v).toNat)
  case atStart => exact ⟨3, o0, rfl, rfl, by omega, hp.out, h0.out, Sole.refl _ _⟩
  case round =>
    obtain ⟨i, o, rfl, hm, hi, hf, hblk, so⟩ := hrel
    have HF := Lib.hid hf
    have HB := Lib.hid hblk
    have HL := Lib.hid so
    by_cases hlt : i < 16
    · have hI : (i : Int) < 16 := by omega
      have hI17 : (i : Int) < 17 := by omega
      have HN := Lib.hid (fst_a hf hlt hm)
      have cx := bv_cell hblk (i := i) (by rw [hf.1]; omega)
      obtain ⟨x, hx⟩ : ∃ x, x = o.getD i 0 := ⟨_, rfl⟩
      rw [← hx] at cx HN
      have f0 : wr.frozen? ⟨B, i, none⟩ = false := hblk.free _
      have HX := Lib.hid (mask15 x)
      have HM := Lib.hid hm
      clear hx hm hf hblk so hi
      go_wp2_with (fail)
      go_roundw
      case rel =>
        have h := HB.out.set i (bv (x &&& 15))
        rw [← List.map_set] at h
        rw [HX.out]
        exact ⟨i + 4, _, by go_num, by have := HM.out; omega, by omega, HN.out, h, HL.out.trans (Sole.setCell wr B i _)⟩
      case measure => simp [intOf]; omega
    · obtain rfl : i = 19 := by omega
      clear hf hblk so
      go_wp2_with (fail)
      exact HQ.out _ _ _ _ _ _ _ _ _ _ o _ HF HB HL
def HlbRel (w : World) (B : Nat) (k : List UInt8) (v : Value) (W : World) : Prop := ∃ (j : Nat) (o : List UInt8), v = .int .i64 (j : Int) ∧ j % 4 = 0 ∧ 4 ≤ j ∧ j ≤ 16 ∧ FstP k 19 j o ∧ Blk W B 91 (o.map bv) ∧ Sole w W B
noncomputable def body_hlb : Code := (((Tryd.f40.body.map loopsOf).getD [])[1]?).getD .skip
set_option maxRecDepth 100000 in
set_option maxHeartbeats 2000000 in
theorem hlb_loop (c0 c1 c2 c3 c5 c6 c8 c9 c10 c11 c12 c13 c14 c15 c16 c17 c18 c19 c20 c21 c22 c23 c24 c25 c26 c27 c28 c29 c30 c31 c32 c33 : Value) (B : Nat) (k o0 : List UInt8) (w : World) (hp : Hid (FstP k 19 4 o0)) (h0 : Hid (Blk w B 91 (o0.map bv))) {Q : Exit → Act → World → Prop}
    (HQ : Hid (∀ (u7 u23 u24 u25 u26 u27 u28 u29 u30 u31 : Value) (o : List UInt8) (wx : World), Hid (FstP k 19 16 o) → Hid (Blk wx B 91 (o.map bv)) → Hid (Sole w wx B) → Q (.exit 2) ⟨List.toArray (c0 :: c1 :: c2 :: c3 :: (.pointer (some ⟨B, 0, none⟩)) :: c5 :: c6 :: u7 :: c8 :: c9 :: c10 :: c11 :: c12 :: c13 :: c14 :: c15 :: c16 :: c17 :: c18 :: c19 :: c20 :: c21 :: c22 :: u23 :: u24 :: u25 :: u26 :: u27 :: u28 :: u29 :: u30 :: u31 :: c32 :: c33 :: []), []⟩ wx)) :
    (Code.loop body_hlb).wp Tryd.prog Q ⟨List.toArray (c0 :: c1 :: c2 :: c3 :: (.pointer (some ⟨B, 0, none⟩)) :: c5 :: c6 :: (.int .i64 4) :: c8 :: c9 :: c10 :: c11 :: c12 :: c13 :: c14 :: c15 :: c16 :: c17 :: c18 :: c19 :: c20 :: c21 :: c22 :: c23 :: c24 :: c25 :: c26 :: c27 :: c28 :: c29 :: c30 :: c31 :: c32 :: c33 :: []), []⟩ w := by
  unfold body_hlb
  conv => arg 2; arg 1; whnf
  go_loopw [7] (fun v wx => HlbRel w B k v wx) (fun v _ => 20 - (intOf v).toNat)
  case atStart => exact ⟨4, o0, rfl, rfl, by omega, by omega, hp.out, h0.out, Sole.refl _ _⟩
  case round =>
    obtain ⟨i, o, rfl, hm, h4, hi, hf, hblk, so⟩ := hrel
    have HF := Lib.hid hf
    have HB := Lib.hid hblk
    have HL := Lib.hid so
    by_cases hlt : i < 16
    · have hI : (i : Int) < 16 := by omega
      have hI17 : (i : Int) < 17 := by omega
      have HN := Lib.hid (fst_b hf hlt hm h4)
      have cx := bv_cell hblk (i := i) (by rw [hf.1]; omega)
      obtain ⟨x, hx⟩ : ∃ x, x = o.getD i 0 := ⟨_, rfl⟩
      rw [← hx] at cx HN
      have f0 : wr.frozen? ⟨B, i, none⟩ = false := hblk.free _
      have HX := Lib.hid (mask252 x)
      have HM := Lib.hid hm
      clear hx hm hf hblk so hi
      go_wp2_with (fail)
      go_roundw
      case rel =>
        have h := HB.out.set i (bv (x &&& 252))
        rw [← List.map_set] at h
        rw [HX.out]
        exact ⟨i + 4, _, by go_num, by have := HM.out; omega, by omega, by have := HM.out; omega, HN.out, h, HL.out.trans (Sole.setCell wr B i _)⟩
      case measure => simp [intOf]; omega
    · obtain rfl : i = 16 := by omega
      clear hf hblk so
      go_wp2_with (fail)
      exact HQ.out _ _ _ _ _ _ _ _ _ _ o _ HF HB HL
theorem splice_17 {xs : List UInt8} (h : xs.length = 16) : splice (List.replicate 17 (0 : UInt8)) 0 xs = xs ++ [0] := by simp [splice, h]
set_option maxRecDepth 100000 in
set_option maxHeartbeats 2000000 in
theorem halves_any (k : List UInt8) (w : World) (hk : k.length = 32) :
    Calls Tryd.prog 40 #[.agg (k.map bv).toArray] w fun e w' => e = .returned (.tuple #[.agg ((lim (rN k)).map wq).toArray, .agg ((lim (sN k)).map wq).toArray]) ∧ Below w.heap.size w w' := by
  have HI : Hid ((Tryd.prog.info? 80).map (·.size) = some 5) := Lib.hid num_info
  have HZ : Hid ((Tryd.prog.info? 5).map (·.size) = some 1) := by show _ = _; kernel_rfl
  obtain ⟨i0, hi0, hz0, hz1, hz2⟩ := info_parts info_u8
  obtain ⟨W1, hW1⟩ : ∃ W : World, W = ((((w.alloc (.cells (k.map bv).toArray 23)).alloc (.cells (List.replicate 5 (Value.int .u64 0)).toArray 80)).alloc (.cells (List.replicate 5 (Value.int .u64 0)).toArray 80)).alloc (.cells (List.replicate 17 (Value.int .u8 0)).toArray 91)).alloc (.cells (List.replicate 17 (Value.int .u8 0)).toArray 91) := ⟨_, rfl⟩
  have S1 : W1.heap.size = w.heap.size + 1 + 1 + 1 + 1 + 1 := by rw [hW1]; simp
  have D1 : Hid (Below w.heap.size w W1) := Lib.hid (by rw [hW1]; exact (((((Below.refl _ _).alloc (Nat.le_refl _) _).alloc (by simp) _).alloc (by simp; omega) _).alloc (by simp; omega) _).alloc (by simp; omega) _)
  have K1 : Hid (Blk W1 w.heap.size 23 (k.map bv)) := Lib.hid (by rw [hW1]; exact ((((Blk.made w _ _).alloc _).alloc _).alloc _).alloc _)
  have R1 : Hid (Blk W1 (w.heap.size + 1) 80 (List.replicate 5 (Value.int .u64 0))) := Lib.hid (by
    have h := (((Blk.made (w.alloc (.cells (k.map bv).toArray 23)) 80 (List.replicate 5 (Value.int .u64 0))).alloc (.cells (List.replicate 5 (Value.int .u64 0)).toArray 80)).alloc (.cells (List.replicate 17 (Value.int .u8 0)).toArray 91)).alloc (.cells (List.replicate 17 (Value.int .u8 0)).toArray 91)
    rw [World.size_alloc] at h
    rw [hW1]
    exact h)
  have Q1 : Hid (Blk W1 (w.heap.size + 1 + 1) 80 (List.replicate 5 (Value.int .u64 0))) := Lib.hid (by
    have h := ((Blk.made ((w.alloc (.cells (k.map bv).toArray 23)).alloc (.cells (List.replicate 5 (Value.int .u64 0)).toArray 80)) 80 (List.replicate 5 (Value.int .u64 0))).alloc (.cells (List.replicate 17 (Value.int .u8 0)).toArray 91)).alloc (.cells (List.replicate 17 (Value.int .u8 0)).toArray 91)
    rw [World.size_alloc, World.size_alloc] at h
    rw [hW1]
    exact h)
  have F1 : Hid (Blk W1 (w.heap.size + 1 + 1 + 1) 91 ((List.replicate 17 (0 : UInt8)).map bv)) := Lib.hid (by
    have h := (Blk.made (((w.alloc (.cells (k.map bv).toArray 23)).alloc (.cells (List.replicate 5 (Value.int .u64 0)).toArray 80)).alloc (.cells (List.replicate 5 (Value.int .u64 0)).toArray 80)) 91 (List.replicate 17 (Value.int .u8 0))).alloc (.cells (List.replicate 17 (Value.int .u8 0)).toArray 91)
    rw [World.size_alloc, World.size_alloc, World.size_alloc] at h
    rw [hW1, List.map_replicate]
    exact h)
  have L1 : Hid (Blk W1 (w.heap.size + 1 + 1 + 1 + 1) 91 ((List.replicate 17 (0 : UInt8)).map bv)) := Lib.hid (by
    have h := Blk.made ((((w.alloc (.cells (k.map bv).toArray 23)).alloc (.cells (List.replicate 5 (Value.int .u64 0)).toArray 80)).alloc (.cells (List.replicate 5 (Value.int .u64 0)).toArray 80)).alloc (.cells (List.replicate 17 (Value.int .u8 0)).toArray 91)) 91 (List.replicate 17 (Value.int .u8 0))
    rw [World.size_alloc, World.size_alloc, World.size_alloc, World.size_alloc] at h
    rw [hW1, List.map_replicate]
    exact h)
  have rk := K1.out.rd 32 32 (by omega) (by omega) (by unfold maxLen; omega)
  rw [List.take_of_length_le (by omega)] at rk
  have RK := Lib.hid rk
  have rl := K1.out.rdo 16 16 16 (by omega) (by omega) (by unfold maxLen; omega)
  rw [List.take_of_length_le (by rw [List.length_drop]; omega)] at rl
  have HT : Hid ((k.take 16).length = 16) := Lib.hid (by rw [List.length_take]; omega)
  have HD : Hid ((k.drop 16).length = 16) := Lib.hid (by rw [List.length_drop]; omega)
  have HKL := Lib.hid hk
  have RL := Lib.hid rl
  have M1 : Hid (16 = min k.length 16) := Lib.hid (by omega)
  have M2 : Hid (16 = min (k.drop 16).length 17) := Lib.hid (by rw [HD.out]; rfl)
  have HS1 := Lib.hid S1
  clear hk rk rl S1
  subst hW1
  go_enter Tryd.func40, Tryd.ntmps40
  go_wp2_with (first
               | refine Go.Great.wpList_boxTo rfl _ _ rfl _ rfl w.heap.size rfl ((k.map bv).toArray) rfl ?_)
  go_region_law (refine step_copy_rd rfl (.tmp 8) (.tmp 9) 26 26 rfl 5 Tryd.underlying26 HZ.out (some ⟨w.heap.size + 1 + 1 + 1, 0, none⟩) 16 17 (by simp [Act.eval, Act.put]) (.slice (some ⟨w.heap.size, 0, none⟩) 32 32) (by simp [Act.eval, Act.put]) k RK.out (w.heap.size + 1 + 1 + 1) 0 (List.replicate 17 (0 : UInt8)) 91 F1.out 16 M1.out (fun _ => rfl) (by simp) ?_; intro w2 hb2 hs2)
  rw [splice_17 HT.out] at hb2
  have F2 := Lib.hid hb2
  have L2 := Lib.hid (hs2.blk L1.out (by omega))
  have R2 := Lib.hid (hs2.blk R1.out (by omega))
  have Q2 := Lib.hid (hs2.blk Q1.out (by omega))
  have RL2 := Lib.hid (hs2.rd RL.out (fun _ e => by have h : w.heap.size = w.heap.size + 1 + 1 + 1 := Option.some.inj e; omega))
  have D2 : Hid (Below w.heap.size w w2) := Lib.hid (D1.out.drew.trans (hs2.below.mono (by omega)))
  have S2 : Hid (w2.heap.size = w.heap.size + 1 + 1 + 1 + 1 + 1) := Lib.hid (hs2.size.trans HS1.out)
  clear hb2 hs2 F1 L1 R1 Q1 D1 HS1 K1 RK RL M1
  go_wp2_with (fail)
  go_region_law (refine step_copy_rd rfl (.tmp 11) (.tmp 12) 26 26 rfl 5 Tryd.underlying26 HZ.out (some ⟨w.heap.size + 1 + 1 + 1 + 1, 0, none⟩) 17 17 (by simp [Act.eval, Act.put]) (.slice (some ⟨w.heap.size, 16, none⟩) 16 16) (by simp [Act.eval, Act.put]) (k.drop 16) RL2.out (w.heap.size + 1 + 1 + 1 + 1) 0 (List.replicate 17 (0 : UInt8)) 91 L2.out 16 M2.out (fun _ => rfl) (by simp) ?_; intro w3 hb3 hs3)
  rw [List.take_of_length_le (by rw [HD.out]; omega), splice_17 HD.out] at hb3
  have L3 := Lib.hid hb3
  have F3 := Lib.hid (hs3.blk F2.out (by omega))
  have R3 := Lib.hid (hs3.blk R2.out (by omega))
  have Q3 := Lib.hid (hs3.blk Q2.out (by omega))
  have D3 : Hid (Below w.heap.size w w3) := Lib.hid (D2.out.drew.trans (hs3.below.mono (by omega)))
  have S3 : Hid (w3.heap.size = w.heap.size + 1 + 1 + 1 + 1 + 1) := Lib.hid (hs3.size.trans S2.out)
  have HF3 := Lib.hid (fst_start HKL.out)
  clear hb3 hs3 F2 L2 R2 Q2 RL2 D2 S2 M2
  go_wp2_with (fail)
  refine hla_loop _ _ _ _ _ _ _ _ _ _ _ _ _ _ _ _ _ _ _ _ _ _ _ _ _ _ _ _ _ _ _ _ (w.heap.size + 1 + 1 + 1) k _ w3 HF3 F3 (Lib.hid ?_)
  intro u6 u14 u15 u16 u17 u18 u19 u20 u21 u22 o4 w4 hp4 hb4 hs4
  have L4 := Lib.hid (hs4.out.blk L3.out (by omega))
  have R4 := Lib.hid (hs4.out.blk R3.out (by omega))
  have Q4 := Lib.hid (hs4.out.blk Q3.out (by omega))
  have D4 : Hid (Below w.heap.size w w4) := Lib.hid (D3.out.trans (hs4.out.below.mono (by omega)))
  have S4 : Hid (w4.heap.size = w.heap.size + 1 + 1 + 1 + 1 + 1) := Lib.hid (hs4.out.size.trans S3.out)
  clear hs4 L3 R3 Q3 D3 S3 F3 HF3
  go_wp2_with (fail)
  refine hlb_loop _ _ _ _ _ _ _ _ _ _ _ _ _ _ _ _ _ _ _ _ _ _ _ _ _ _ _ _ _ _ _ _ (w.heap.size + 1 + 1 + 1) k o4 w4 hp4 hb4 (Lib.hid ?_)
  intro u7 u23 u24 u25 u26 u27 u28 u29 u30 u31 o5 w5 hp5 hb5 hs5
  have ho := fst_end hp5.out HKL.out
  have hb := hb5.out
  rw [ho] at hb
  have F5 := Lib.hid hb
  have L5 := Lib.hid (hs5.out.blk L4.out (by omega))
  have R5 := Lib.hid (hs5.out.blk R4.out (by omega))
  have Q5 := Lib.hid (hs5.out.blk Q4.out (by omega))
  have D5 : Hid (Below w.heap.size w w5) := Lib.hid (D4.out.trans (hs5.out.below.mono (by omega)))
  have S5 : Hid (w5.heap.size = w.heap.size + 1 + 1 + 1 + 1 + 1) := Lib.hid (hs5.out.size.trans S4.out)
  have HRL : Hid ((rB k ++ [0]).length = 17) := Lib.hid (by rw [← ho]; exact hp5.out.1)
  have HSL : Hid ((k.drop 16 ++ [0]).length = 17) := Lib.hid (by rw [List.length_append, HD.out]; rfl)
  clear hb5 hs5 L4 R4 Q4 D4 S4 ho hb hp5 hp4 hb4
  go_wp2_with (fail)
  refine (nof_any (w.heap.size + 1 + 1 + 1) _ _ _ F5.out HRL.out).mono ?_
  rintro e w6 ⟨rfl, hb6⟩
  have L6 := Lib.hid (L5.out.below hb6 L5.out.lt)
  have R6 := Lib.hid (R5.out.below hb6 R5.out.lt)
  have Q6 := Lib.hid (Q5.out.below hb6 Q5.out.lt)
  have D6 : Hid (Below w.heap.size w w6) := Lib.hid (D5.out.trans (hb6.mono D5.out.size))
  clear hb6 L5 R5 Q5 D5 F5
  go_wp2_with (fail)
  refine (nof_any (w.heap.size + 1 + 1 + 1 + 1) _ _ _ L6.out HSL.out).mono ?_
  rintro e w7 ⟨rfl, hb7⟩
  have R7 := Lib.hid (R6.out.below hb7 R6.out.lt)
  have Q7 := Lib.hid (Q6.out.below hb7 Q6.out.lt)
  have D7 : Hid (Below w.heap.size w w7) := Lib.hid (D6.out.trans (hb7.mono D6.out.size))
  rw [numB_z, numB_z]
  obtain ⟨ra, hra⟩ : ∃ x, x = lim (numB (rB k)) := ⟨_, rfl⟩
  obtain ⟨sa, hsa⟩ : ∃ x, x = lim (numB (k.drop 16)) := ⟨_, rfl⟩
  have HLA : Hid ((ra.map wq).length = 5) := by show _ = _; rw [List.length_map, hra, lim_length]
  have HLS : Hid ((sa.map wq).length = 5) := by show _ = _; rw [List.length_map, hsa, lim_length]
  have HRA := Lib.hid hra
  have HSA := Lib.hid hsa
  rw [← hra, ← hsa]
  clear hb7 L6 R6 Q6 D6 hra hsa
  go_wp2_with (first
    | (refine wpList_store_blk rfl 80 (.tmp 2) (.tmp 32) rfl (w.heap.size + 1) 80 _ R7.out (ra.map wq) rfl rfl (by rw [HLA.out]; rfl) (by rw [HLA.out]; exact HI.out) (wq_one _) ?_
       intro w8 hb8 hs8
       have Q8 := Lib.hid (hs8.blk Q7.out (by omega))
       have R8 := Lib.hid hb8
       have D8 : Hid (Below w.heap.size w w8) := Lib.hid (D7.out.trans (hs8.below.mono (by omega)))
       clear hb8 hs8 Q7 R7 D7)
    | (refine wpList_store_blk rfl 80 (.tmp 3) (.tmp 33) rfl (w.heap.size + 1 + 1) 80 _ Q8.out (sa.map wq) rfl rfl (by rw [HLS.out]; rfl) (by rw [HLS.out]; exact HI.out) (wq_one _) ?_
       intro w9 hb9 hs9))
  have R9 := hs9.blk R8.out (by omega)
  refine bodyPost_ret (v := .tuple #[.agg (ra.map wq).toArray, .agg (sa.map wq).toArray]) ?_ rfl ⟨by rw [HRA.out, HSA.out]; rfl, D8.out.trans (hs9.below.mono (by omega))⟩
  exact results_blk2 (ty := 80) Tryd.results40 _ w9 (w.heap.size + 1) (w.heap.size + 1 + 1) 80 80 (ra.map wq) (sa.map wq) _ rfl rfl R9 hb9 Tryd.underlying80 rfl (by rw [HLA.out]; exact HI.out) (by rw [HLS.out]; exact HI.out)
end Go.Proofs.YtmoffodmbbkolaaDoor
