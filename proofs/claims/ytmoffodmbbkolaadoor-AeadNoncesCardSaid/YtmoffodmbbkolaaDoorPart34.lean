/- Part 34 of the words that the laws share: CFirst. No condition of its own: each theorem says its own. -/
import Derived.Test.YtmoffodmbbkolaaDoorPart29
import Derived.Test.YtmoffodmbbkolaaDoorPart3
import Derived.Test.YtmoffodmbbkolaaDoorPart9
import Derived.Great.Ranges
import Derived.Lib.LazyBuf

/- chacha's firstWords: its plain arithmetic, a copy of a string, and its loop. Conditions: 64 bytes are laid. -/
namespace Go.Proofs.YtmoffodmbbkolaaDoor
open Go.RowKit

theorem wLE_get (m : List UInt8) (n : Nat) : ∀ i, i < n → (wLE m n)[i]? = some (numB ((m.drop (4 * i)).take 4)) := by
  induction n with
  | zero => intro i hi; omega
  | succ n ih =>
    intro i hi
    rw [wLE]
    by_cases h : i < n
    · rw [List.getElem?_append_left (by rw [wLE_length]; exact h)]
      exact ih i h
    · obtain rfl : i = n := by omega
      rw [List.getElem?_append_right (by rw [wLE_length]; exact Nat.le_refl _), wLE_length]
      simp
theorem numB_leB (k n : Nat) : n < 256 ^ k → numB (leB k n) = n := by
  induction k generalizing n with
  | zero => intro h; simp [leB, numB] at *; omega
  | succ k ih =>
    intro h
    rw [leB, numB, ih _ (by rw [Nat.pow_succ] at h; omega), UInt8.toNat_ofNat']
    omega
theorem first_words (k nonce : List UInt8) (n : Nat) (hk : k.length = 32) (hn : n < 4294967296) : (wLE (chaSign ++ k ++ List.replicate 4 0 ++ nonce) 16).set 12 n = chaStart k n nonce := by
  have hs : (chaSign ++ k).length = 48 := by rw [List.length_append, hk]; rfl
  obtain ⟨p, hp⟩ := ex_eq1 (chaSign ++ k)
  have hl4 := leB_length 4 n
  obtain ⟨q, hq⟩ := ex_eq1 (leB 4 n)
  unfold chaStart chaIn
  rw [← hp, ← hq]
  rw [← hp] at hs
  rw [← hq] at hl4
  apply List.ext_getElem?
  intro i
  by_cases hi : i < 16
  · rw [wLE_get _ _ i hi]
    by_cases h12 : i = 12
    · subst h12
      rw [List.getElem?_set_self (by rw [wLE_length]; omega), List.append_assoc, List.drop_append, List.drop_of_length_le (by omega), hs]
      simp only [List.nil_append, Nat.sub_self, Nat.reduceMul, List.drop_zero]
      rw [List.take_append_of_le_length (by omega), List.take_of_length_le (by omega), hq, numB_leB 4 n (by omega)]
    · rw [List.getElem?_set_ne (by omega), wLE_get _ _ i hi]
      congr 2
      rcases Nat.lt_or_ge i 12 with h | h
      · rw [List.append_assoc, List.append_assoc, List.drop_append_of_le_length (by omega), List.drop_append_of_le_length (by omega), List.take_append_of_le_length (by rw [List.length_drop]; omega), List.take_append_of_le_length (by rw [List.length_drop]; omega)]
      · have e1 : (p ++ List.replicate 4 0).length = 52 := by simp; omega
        have e2 : (p ++ q).length = 52 := by simp; omega
        have d1 : (p ++ List.replicate 4 0 ++ nonce).drop (4 * i) = nonce.drop (4 * i - 52) := by rw [List.drop_append, List.drop_of_length_le (by omega), e1, List.nil_append]
        have d2 : (p ++ q ++ nonce).drop (4 * i) = nonce.drop (4 * i - 52) := by rw [List.drop_append, List.drop_of_length_le (by omega), e2, List.nil_append]
        rw [d1, d2]
  · rw [List.getElem?_eq_none (by rw [List.length_set, wLE_length]; omega), List.getElem?_eq_none (by rw [wLE_length]; omega)]
theorem splice_end {pre old zs : List UInt8} : splice (pre ++ old) pre.length zs = pre ++ zs ++ old.drop zs.length := by
  unfold splice
  rw [List.take_left, List.drop_append, List.drop_of_length_le (by omega)]
  simp
theorem lay_all (k nonce : List UInt8) (hk : k.length = 32) (hno : nonce.length = 12) : splice (splice (splice (List.replicate 64 (0 : UInt8)) 0 chaSign) 16 k) 52 nonce = chaSign ++ k ++ List.replicate 4 0 ++ nonce := by
  have e1 : splice (List.replicate 64 (0 : UInt8)) 0 chaSign = chaSign ++ List.replicate 48 0 := by rfl
  have e2 : splice (chaSign ++ List.replicate 48 (0 : UInt8)) 16 k = (chaSign ++ k) ++ List.replicate 16 0 := by
    have h := splice_end (pre := chaSign) (old := List.replicate 48 (0 : UInt8)) (zs := k)
    rw [hk, List.drop_replicate] at h
    exact h
  have e3 : splice ((chaSign ++ k) ++ List.replicate 16 (0 : UInt8)) 52 nonce = (chaSign ++ k ++ List.replicate 4 0) ++ nonce := by
    have h := splice_end (pre := chaSign ++ k ++ List.replicate 4 (0 : UInt8)) (old := List.replicate 12 (0 : UInt8)) (zs := nonce)
    have hl : (chaSign ++ k ++ List.replicate 4 (0 : UInt8)).length = 52 := by rw [List.length_append, List.length_append, hk]; rfl
    rw [hl, hno, List.append_assoc (chaSign ++ k), List.replicate_append_replicate] at h
    simpa using h
  rw [e1, e2, e3]
/-- copy of a string that fits into a block of bytes that is known whole. -/
theorem wpList_copy_str {P : Program} {w : World} {ops : Array Oper} {rest : List Oper} {o : Oper} {a : Act} {Q : Exit → Act → World → Prop} (hgd : o.guard = none) (d s : Operand) (dT sT : TypeId)
    (ho : o.op = .call { callee := .builtin .copy, args := #[d, s], argTypes := #[dT, sT] }) (elem : TypeId) (hu : P.underlying dT = some (.slice elem)) (hsz : (P.info? elem).map (·.size) = some 1)
    (g off dLen dCap : Nat) (hd : a.eval d = .slice (some ⟨g, off, none⟩) dLen dCap) (t : ByteArray) (hs : a.eval s = .string t) (hle : t.size ≤ dLen) (T : TypeId) (cs : List UInt8) (hb : Blk w g T (cs.map bv)) (hfit : off + t.size ≤ cs.length)
    (h : ∀ w', Blk w' g T ((splice cs off t.data.toList).map bv) → Sole w w' g → wpList P ops Q rest (a.put o.dst (goInt t.size)) w') : wpList P ops Q (o :: rest) a w := by
  refine wpList_plain hgd fun K hK => ?_
  have hz : ∀ w, (Go.sizeOf elem).run P w = .ok 1 w := fun w => by
    cases hq : P.info? elem with
    | none => simp [hq] at hsz
    | some i =>
      have h1 : i.size = 1 := by simpa [hq] using hsz
      simp [sizeOf, typeInfo, hq, h1]
  have hrun := run_copy_string (P := P) w dT sT o.type elem g off dLen dCap t hu hz hle (fun j hj => by rw [hb.cell, List.getElem?_eq_getElem (by simp; omega)]; rfl) (fun j hj => hb.free _)
  unfold Oper.wp
  simp [execOp, ho, resolve, invoke, builtin, hd, hs, hrun, Result.andThen]
  refine hK _ _ (h _ ?_ (Sole.setCells g _ off w))
  have h2 := hb.lay (t.data.toList.map bv) off
  have hl : (t.data.toList.map bv).length = t.size := by rw [List.length_map]; exact Array.length_toList
  rw [layL_eq _ _ _ (by rw [hl]; simpa using hfit)] at h2
  have e : (splice cs off t.data.toList).map bv = (cs.map bv).take off ++ t.data.toList.map bv ++ (cs.map bv).drop (off + (t.data.toList.map bv).length) := by simp [splice]
  rw [e]
  exact h2
def FstRel (N : Nat) (T : TypeId) (m : List UInt8) (w : World) (v : Value) (W : World) : Prop :=
  ∃ i : Nat, v = .int .i64 (i : Int) ∧ i ≤ 16 ∧ Blk W N T ((wLE m i ++ List.replicate (16 - i) 0).map wv) ∧ Sole w W N
theorem wLE_set (m : List UInt8) {i : Nat} (h : i < 16) : (wLE m i ++ List.replicate (16 - i) 0).set i (numB ((m.drop (4 * i)).take 4)) = wLE m (i + 1) ++ List.replicate (16 - (i + 1)) 0 := by
  have h1 := List.set_append_right (s := wLE m i) (t := List.replicate (16 - i) 0) i (numB ((m.drop (4 * i)).take 4)) (by rw [wLE_length]; exact Nat.le_refl _)
  rw [h1, wLE_length, Nat.sub_self, show 16 - i = (16 - (i + 1)) + 1 by omega, List.replicate_succ, List.set_cons_zero, wLE]
  simp
noncomputable def body_fst : Code := (((Tryd.f27.body.map loopsOf).getD [])[0]?).getD .skip
set_option maxRecDepth 100000 in
set_option maxHeartbeats 1000000 in
theorem fst_loop (c0 c1 c2 c3 c4 c5 c6 c9 c10 c11 c12 c13 c14 c15 c16 c17 c18 c19 c21 c22 c23 c24 c25 c26 c27 c28 c29 c30 c31 c32 c33 c34 c35 c36 c37 : Value) (L N : Nat) (T T2 : TypeId) (m : List UInt8) (w : World) (hm : Hid (m.length = 64)) (hne : L ≠ N) (hl : Hid (Blk w L T2 (m.map bv))) (h0 : Hid (Blk w N T ((List.replicate 16 0).map wv))) {Q : Exit → Act → World → Prop}
    (HQ : Hid (∀ (u9 u10 u11 u20 u21 u22 u23 u24 u25 u26 u27 u28 u29 u30 u31 u32 u33 u34 : Value) (wx : World), Hid (Blk wx N T ((wLE m 16).map wv)) → Hid (Sole w wx N) → Q (.exit 0) ⟨List.toArray (c0 :: c1 :: c2 :: c3 :: c4 :: c5 :: c6 :: (.pointer (some ⟨L, 0, none⟩)) :: (.pointer (some ⟨N, 0, none⟩)) :: u9 :: u10 :: u11 :: c12 :: c13 :: c14 :: c15 :: c16 :: c17 :: c18 :: c19 :: u20 :: u21 :: u22 :: u23 :: u24 :: u25 :: u26 :: u27 :: u28 :: u29 :: u30 :: u31 :: u32 :: u33 :: u34 :: c35 :: c36 :: c37 :: []), []⟩ wx)) :
    (Code.loop body_fst).wp Tryd.prog Q ⟨List.toArray (c0 :: c1 :: c2 :: c3 :: c4 :: c5 :: c6 :: (.pointer (some ⟨L, 0, none⟩)) :: (.pointer (some ⟨N, 0, none⟩)) :: c9 :: c10 :: c11 :: c12 :: c13 :: c14 :: c15 :: c16 :: c17 :: c18 :: c19 :: (.int .i64 0) :: c21 :: c22 :: c23 :: c24 :: c25 :: c26 :: c27 :: c28 :: c29 :: c30 :: c31 :: c32 :: c33 :: c34 :: c35 :: c36 :: c37 :: []), []⟩ w := by
  obtain ⟨i0, hi, hz0, hz1, hz2⟩ := info_parts info_u8
  unfold body_fst
  conv => arg 2; arg 1; whnf
  go_loopw [20] (fun v wx => FstRel N T m w v wx) (fun v _ => 16 - (intOf v).toNat)
  case atStart => exact ⟨0, rfl, by omega, h0.out, Sole.refl _ _⟩
  case round =>
    obtain ⟨i, rfl, hi16, hblk, so⟩ := hrel
    by_cases hlt : i < 16
    · have hI : (i : Int) < 16 := by omega
      have BL := so.blk hl.out hne
      have RD := Lib.hid (BL.rdo (4 * i) (64 - 4 * i) (64 - 4 * i) (by rw [hm.out]; omega) (Nat.le_refl _) (by unfold maxLen; omega))
      have S2 : ∀ W, (Instr.sliceAt 61 (.pointer (some ⟨L, 0, none⟩)) (some (.int .i64 ((i : Int) * 4))) none none).run Tryd.prog W = .ok (.slice (some ⟨L, 4 * i, none⟩) (64 - 4 * i) (64 - 4 * i)) W := fun W => by
        rw [run_slice_arr_l W 61 64 5 i0 Tryd.underlying61 hi hz1 L (4 * i) _ (by omega) (by omega), if_neg (by omega)]
      obtain ⟨x, hx⟩ : ∃ x, x = numB ((m.drop (4 * i)).take 4) := ⟨_, rfl⟩
      have hxl : (x : Int) ≤ 4294967295 := by have := numB4_lt m (4 * i); omega
      have HC : Hid (∀ W, Below w.heap.size w W ∨ W = wr → Calls Tryd.prog 26 #[.slice (some ⟨L, 4 * i, none⟩) (64 - 4 * i) (64 - 4 * i), .int .i64 4] wr fun e w' => e = .returned (.tuple #[.int .u64 (x : Int), .int .i64 0]) ∧ wr = w') := Lib.hid fun W _ => by
        have h := get_yes _ _ 4 wr RD.out (by omega) (by omega) (by rw [List.length_take, List.length_drop, hm.out]; omega)
        rw [List.take_take, Nat.min_eq_left (by omega), ← hx] at h
        exact h
      have f0 : wr.frozen? ⟨N, i, none⟩ = false := hblk.free _
      obtain ⟨u, hu⟩ : ∃ u, wr.cell? ⟨N, i, none⟩ = some u := by
        refine ⟨((wLE m i ++ List.replicate (16 - i) 0).map wv)[i]'?_, ?_⟩
        · simp [wLE_length]; omega
        · rw [hblk.cell]; exact List.getElem?_eq_getElem _
      have HE : Hid ((wLE m i ++ List.replicate (16 - i) 0).set i x = wLE m (i + 1) ++ List.replicate (16 - (i + 1)) 0) := Lib.hid (by rw [hx]; exact wLE_set m hlt)
      have HB := Lib.hid hblk
      have HL := Lib.hid so
      clear hblk so hi16 hx BL
      go_wp2_with (fail)
      refine (HC.out _ (.inr rfl)).mono ?_
      rintro e w1 ⟨rfl, rfl⟩
      go_wp2_with (fail)
      go_roundw
      case rel =>
        have h := HB.out.set i (wv x)
        rw [← List.map_set, HE.out] at h
        exact ⟨i + 1, by go_num, by omega, h, HL.out.trans (Sole.setCell _ N _ _)⟩
      case measure => simp [intOf]; omega
    · obtain rfl : i = 16 := by omega
      have HB : Hid (Blk wr N T ((wLE m 16).map wv)) := Lib.hid (by simpa using hblk)
      have HL := Lib.hid so
      clear hblk so
      go_wp2_with (fail)
      exact HQ.out _ _ _ _ _ _ _ _ _ _ _ _ _ _ _ _ _ _ _ HB HL
end Go.Proofs.YtmoffodmbbkolaaDoor
