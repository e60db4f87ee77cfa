/- Part 16 of the words that the laws share: GsB, Here, Copied, PcTri. No condition of its own: each theorem says its own. -/
import Derived.Test.YtcicdbhffkpldaaPart1

/- A short form read: plain words, with no program in sight. No condition of its own. -/
namespace Go.Proofs.Ytcicdbhffkpldaa
open Go.RowKit

/-- What reading a short form makes of bytes: the number, how many bytes it has, the error; behind i bytes that told a. -/
def gsL : Nat → Nat → List UInt8 → Nat × Nat × Nat
  | i, _, [] => if i = 10 then (0, 0, 4) else (0, 0, 2)
  | i, a, c :: xs =>
    if i = 10 then (0, 0, 4) else
    if (i = 9 ∧ 1 < c.toNat) ∨ (0 < i ∧ c.toNat = 0) then (0, 0, 4) else
    if c.toNat < 128 then (a + 128 ^ i * (c.toNat % 128), i + 1, 0) else gsL (i + 1) (a + 128 ^ i * (c.toNat % 128)) xs
def getS (xs : List UInt8) : Nat × Nat × Nat := gsL 0 0 xs

theorem gsL_ten (a : Nat) (xs : List UInt8) : gsL 10 a xs = (0, 0, 4) := by cases xs <;> simp [gsL]
theorem gsL_err {i a : Nat} {xs : List UInt8} (h : (gsL i a xs).2.2 ≠ 0) : (gsL i a xs = (0, 0, 2)) ∨ gsL i a xs = (0, 0, 4) := by
  induction xs generalizing i a with
  | nil => rw [gsL]; split <;> simp
  | cons c xs ih =>
    rw [gsL] at h ⊢
    split
    · simp
    · split
      · simp
      · split
        · rename_i h1 h2 h3
          rw [if_neg h1, if_neg h2, if_pos h3] at h
          exact absurd rfl h
        · rename_i h1 h2 h3
          rw [if_neg h1, if_neg h2, if_neg h3] at h
          exact ih h
/-- What is laid is read. -/
theorem gsL_sh {f i a n : Nat} {xs : List UInt8} (hf : f + i = 9) (hn : n < 2 * 128 ^ f) (h0 : 0 < i → 0 < n) :
    gsL i a (shortB f n ++ xs) = (a + 128 ^ i * n, i + (shortB f n).length, 0) := by
  induction f generalizing i a n with
  | zero =>
    have hi : i = 9 := by omega
    subst hi
    have h1 := h0 (by omega)
    have e : (UInt8.ofNat n).toNat = 1 := by rw [UInt8.toNat_ofNat']; omega
    have e2 : n = 1 := by omega
    rw [shortB, List.cons_append, gsL, e, e2]
    simp
  | succ f ih =>
    rw [shortB]
    split
    · rename_i hlt
      have e : (UInt8.ofNat n).toNat = n := by rw [UInt8.toNat_ofNat']; omega
      rw [List.cons_append, gsL, e, if_neg (by omega), if_neg (by omega), if_pos hlt, Nat.mod_eq_of_lt hlt]
      simp
    · rename_i hlt
      have e : (UInt8.ofNat (n % 128 + 128)).toNat = n % 128 + 128 := by rw [UInt8.toNat_ofNat']; omega
      rw [List.cons_append, gsL, e, if_neg (by omega), if_neg (by omega), if_neg (by omega), ih (by omega) (by rw [Nat.pow_succ] at hn; omega) (by omega)]
      have e1 : (n % 128 + 128) % 128 = n % 128 := by omega
      have e2 : a + 128 ^ i * ((n % 128 + 128) % 128) + 128 ^ (i + 1) * (n / 128) = a + 128 ^ i * n := by
        rw [e1, Nat.pow_succ, Nat.mul_assoc, Nat.add_assoc, ← Nat.mul_add]
        congr 2
        omega
      rw [e2, List.length_cons]
      congr 2
      omega
/-- What is read was laid. -/
theorem gsL_is {i a m u : Nat} {xs : List UInt8} (hi : i ≤ 9) (h : gsL i a xs = (m, u, 0)) :
    ∃ n r, xs = shortB (9 - i) n ++ r ∧ m = a + 128 ^ i * n ∧ u = i + (shortB (9 - i) n).length ∧ n < 2 * 128 ^ (9 - i) ∧ (0 < i → 0 < n) := by
  induction xs generalizing i a with
  | nil => rw [gsL] at h; split at h <;> simp at h
  | cons c xs ih =>
    rw [gsL, if_neg (by omega)] at h
    split at h
    · simp at h
    rename_i hb
    have hc : c.toNat < 256 := c.toNat_lt
    have hcc : UInt8.ofNat c.toNat = c := UInt8.ofNat_toNat
    split at h
    · rename_i hlt
      simp only [Prod.mk.injEq] at h
      obtain ⟨h1, h2, -⟩ := h
      rw [Nat.mod_eq_of_lt hlt] at h1
      refine ⟨c.toNat, xs, ?_, h1.symm, ?_, ?_, by omega⟩
      · rw [shortB_last (by omega), hcc]; rfl
      · rw [shortB_last (by omega), ← h2]; rfl
      · by_cases h9 : i = 9
        · subst h9
          simp
          omega
        · have : 128 ^ 1 ≤ 128 ^ (9 - i) := Nat.pow_le_pow_right (by omega) (by omega)
          omega
    · rename_i hlt
      have h9 : i ≠ 9 := by omega
      obtain ⟨n, r, e1, e2, e3, e4, e5⟩ := ih (by omega) h
      obtain ⟨g, hg⟩ : ∃ g, 9 - i = g + 1 := ⟨9 - i - 1, by omega⟩
      have hg' : 9 - (i + 1) = g := by omega
      rw [hg'] at e1 e3 e4
      have hn := e5 (by omega)
      have eq : (c.toNat % 128 + 128 * n) % 128 = c.toNat % 128 := by omega
      have ed : (c.toNat % 128 + 128 * n) / 128 = n := by omega
      have es : shortB (g + 1) (c.toNat % 128 + 128 * n) = c :: shortB g n := by
        rw [shortB_more (by omega), eq, ed]
        have : c.toNat % 128 + 128 = c.toNat := by omega
        rw [this, hcc]
      refine ⟨c.toNat % 128 + 128 * n, r, ?_, ?_, ?_, ?_, by omega⟩
      · rw [hg, es, e1]; rfl
      · rw [e2, Nat.pow_succ, Nat.mul_assoc, Nat.add_assoc, ← Nat.mul_add]
      · rw [hg, es, e3, List.length_cons]; omega
      · rw [hg, Nat.pow_succ]; omega

theorem getS_sh {n : Nat} {xs : List UInt8} (hn : n < 18446744073709551616) : getS (shortB 9 n ++ xs) = (n, (shortB 9 n).length, 0) := by
  unfold getS
  rw [gsL_sh (by omega) (by omega) (by omega)]
  simp
theorem getS_is {m u : Nat} {xs : List UInt8} (h : getS xs = (m, u, 0)) : ∃ r, xs = shortB 9 m ++ r ∧ u = (shortB 9 m).length ∧ m < 18446744073709551616 := by
  obtain ⟨n, r, e1, e2, e3, e4, -⟩ := gsL_is (by omega) h
  have e : m = n := by rw [e2]; simp
  subst e
  exact ⟨r, e1, by simpa using e3, by simpa using e4⟩
theorem getS_err {xs : List UInt8} (h : (getS xs).2.2 ≠ 0) : getS xs = (0, 0, 2) ∨ getS xs = (0, 0, 4) := gsL_err h
end Go.Proofs.Ytcicdbhffkpldaa

/- Guards of a walk's arms: each changes nothing, and fits one operation alone (use: with_reducible refine here_store ?_, ahead of a law for a store). No condition of its own. -/
namespace Go.Proofs.Ytcicdbhffkpldaa
open Go.RowKit

section
variable {P : Program} {ops : Array Oper} {rest : List Oper} {a : Act} {w : World} {Q : Exit → Act → World → Prop} {d : Option Tmp} {t : TypeId} {p : String} {f : Array Edge} {g : Option (Tmp × Bool)}
theorem here_store {ty : TypeId} {x y : Operand} (h : wpList P ops Q (⟨d, .store ty x y, t, p, f, g⟩ :: rest) a w) : wpList P ops Q (⟨d, .store ty x y, t, p, f, g⟩ :: rest) a w := h
theorem here_load {ty : TypeId} {x : Operand} (h : wpList P ops Q (⟨d, .load ty x, t, p, f, g⟩ :: rest) a w) : wpList P ops Q (⟨d, .load ty x, t, p, f, g⟩ :: rest) a w := h
theorem here_alloc {ty : TypeId} (h : wpList P ops Q (⟨d, .alloc ty, t, p, f, g⟩ :: rest) a w) : wpList P ops Q (⟨d, .alloc ty, t, p, f, g⟩ :: rest) a w := h
theorem here_build {ty : TypeId} {l : Array (Nat × Operand)} (h : wpList P ops Q (⟨d, .build ty l, t, p, f, g⟩ :: rest) a w) : wpList P ops Q (⟨d, .build ty l, t, p, f, g⟩ :: rest) a w := h
theorem here_slices {ty : TypeId} {n : Nat} {l : Array (Nat × Operand)} (h : wpList P ops Q (⟨d, .buildSlice ty n l, t, p, f, g⟩ :: rest) a w) : wpList P ops Q (⟨d, .buildSlice ty n l, t, p, f, g⟩ :: rest) a w := h
theorem here_look {ty : TypeId} {x y : Operand} {b : Bool} (h : wpList P ops Q (⟨d, .lookup ty x y b, t, p, f, g⟩ :: rest) a w) : wpList P ops Q (⟨d, .lookup ty x y b, t, p, f, g⟩ :: rest) a w := h
theorem here_upd {ty : TypeId} {x y z : Operand} (h : wpList P ops Q (⟨d, .mapUpdate ty x y z, t, p, f, g⟩ :: rest) a w) : wpList P ops Q (⟨d, .mapUpdate ty x y z, t, p, f, g⟩ :: rest) a w := h
theorem here_map {ty : TypeId} (h : wpList P ops Q (⟨d, .makeMap ty none, t, p, f, g⟩ :: rest) a w) : wpList P ops Q (⟨d, .makeMap ty none, t, p, f, g⟩ :: rest) a w := h
end
end Go.Proofs.Ytcicdbhffkpldaa

/- num.copied: new memory, what came in. Conditions: what comes in reads as at most 2^40 bytes. -/
namespace Go.Proofs.Ytcicdbhffkpldaa
open Go.RowKit

set_option maxHeartbeats 400000 in
theorem copied_any (v : Value) (xs : List UInt8) (more : Int) (w : World) (h : Rd w v xs) (hl : xs.length ≤ 1099511627776) (hm0 : 0 ≤ more) (hm : more ≤ 1000) :
    Calls Try.prog 37 #[v, .int .i64 more] w (Own w 5 xs) := by
  obtain ⟨i0, hi, hz0, hz1, hz2⟩ := info_parts info_u8
  obtain ⟨A, c, rfl, hc1, hc2, hA⟩ := h.form
  have HR := Lib.hid h
  have HA := Lib.hid hA
  clear hA h
  unfold maxLen at hc2
  go_enter Try.func37, Try.ntmps37
  go_wp2_with (first
    | (at_make
       refine wpList_make_own _ rfl _ _ _ rfl w.heap.size 5 i0 _ 1 Try.underlying25 hi hz0 hz1 _ _ _ (xs.length + more.toNat) rfl rfl ?_ ?_ ?_ (Nat.le_refl _) ?_
       · omega
       · rw [hz2]; omega
       · unfold maxLen; omega
       intro w1 own1 g1)
    | (at_builtin
       refine wpList_append_rd _ rfl _ _ _ rfl w.heap.size 5 i0 _ Try.underlying25 hi hz0 hz1 hz2 rfl _ 0 [] rfl own1 _ xs rfl (HR.out.below ((Below.refl _ _).grown g1 (Nat.le_refl _) (by simp))) ?_ ?_ ?_
       · omega
       · exact g1.size
       intro v2 w2 own2 g2))
  go_ret
  have hb1 : Below w.heap.size w w1 := (Below.refl _ _).grown g1 (Nat.le_refl _) (by simp)
  exact ⟨v2, rfl, by simpa using own2, hb1.grown g2 hb1.size (own_ge own1)⟩
end Go.Proofs.Ytcicdbhffkpldaa

/- The order of places of pieces is total: reckoned. No program in sight. -/
namespace Go.Proofs.Ytcicdbhffkpldaa
open Go.RowKit

theorem key_tri (a b : Pc) : keyLt a b ∨ sameK a b ∨ keyLt b a := by
  unfold keyLt sameK
  by_cases h1 : a.s = b.s
  · rcases Int.lt_trichotomy a.t b.t with h | h | h
    · exact .inl (.inr ⟨h1, h⟩)
    · exact .inr (.inl ⟨h1, h⟩)
    · exact .inr (.inr (.inr ⟨h1.symm, h⟩))
  · cases h : Op.bytesLess a.s.toList b.s.toList with
    | true => exact .inl (.inl rfl)
    | false => exact .inr (.inr (.inl (bl_tri (fun e => h1 (str_inj e)) h)))
theorem keyLt_asymm {a b : Pc} (h : keyLt a b) (g : keyLt b a) : False := keyLt_irrefl a (keyLt_trans h g)
theorem keyLt_same_left {a b c : Pc} (h : sameK a b) (g : keyLt b c) : keyLt a c := by
  unfold keyLt sameK at *
  rw [h.1, h.2]
  exact g
theorem keyLt_same_right {a b c : Pc} (h : keyLt a b) (g : sameK b c) : keyLt a c := by
  unfold keyLt sameK at *
  rw [← g.1, ← g.2]
  exact h
end Go.Proofs.Ytcicdbhffkpldaa
