/- The contract of poly.Same: are two rows of bytes one? Conditions: both read as bytes, of at most 2^40. -/
import Derived.Test.YtlcpplnajaldgaaGen
import Derived.Laws.BitsAllLaws
import Derived.IntWalk
namespace Go.Proofs.Ytlcpplnajaldgaa
open Go.RowKit

theorem wrap_i64_nat (n : Nat) (h : n < 9223372036854775808) : IntKind.i64.wrap (n : Int) = (n : Int) := by
  have e : (n : Int) % 2 ^ 64 = n := Int.emod_eq_of_lt (by omega) (by omega)
  simp only [IntKind.wrap, IntKind.bits, IntKind.signed, e]
  rw [if_neg]
  simp
  omega
theorem i64_xor_nat (a b : Nat) (ha : a < 2199023255552) (hb : b < 2199023255552) : bits .xor .i64 (a : Int) (b : Int) = ((a ^^^ b : Nat) : Int) := by
  have hx : a ^^^ b < 2 ^ 41 := Nat.xor_lt_two_pow ha hb
  show IntKind.i64.wrap ((BitVec.ofInt 64 (a : Int) ^^^ BitVec.ofInt 64 (b : Int)).toNat : Int) = _
  rw [BitVec.toNat_xor, ofInt_u64 a (by omega), ofInt_u64 b (by omega)]
  exact wrap_i64_nat _ (by omega)
theorem i64_or_nat (a b : Nat) (ha : a < 2199023255552) (hb : b < 2199023255552) : bits .or .i64 (a : Int) (b : Int) = ((a ||| b : Nat) : Int) := by
  have hx : a ||| b < 2 ^ 41 := Nat.or_lt_two_pow ha hb
  show IntKind.i64.wrap ((BitVec.ofInt 64 (a : Int) ||| BitVec.ofInt 64 (b : Int)).toNat : Int) = _
  rw [BitVec.toNat_or, ofInt_u64 a (by omega), ofInt_u64 b (by omega)]
  exact wrap_i64_nat _ (by omega)
theorem nxor_zero (a b : Nat) : a ^^^ b = 0 ↔ a = b := by
  constructor
  · intro h
    have h1 : a ^^^ b ^^^ b = b := by rw [h, Nat.zero_xor]
    rwa [Nat.xor_assoc, Nat.xor_self, Nat.xor_zero] at h1
  · rintro rfl
    exact Nat.xor_self a
/-- What tells whether the first k bytes, and the lengths, are one. -/
def SmP (xs ys : List UInt8) (k u : Nat) : Prop := u < 2199023255552 ∧ (u = 0 ↔ xs.length = ys.length ∧ xs.take k = ys.take k)
theorem sm_zero {xs ys : List UInt8} (hx : xs.length < 2199023255552) (hy : ys.length < 2199023255552) : SmP xs ys 0 (xs.length ^^^ ys.length) :=
  ⟨Nat.xor_lt_two_pow (n := 41) hx hy, by rw [nxor_zero]; simp⟩
theorem sm_step {xs ys : List UInt8} {k u : Nat} (h : SmP xs ys k u) (hx : k < xs.length) (hy : k < ys.length) : SmP xs ys (k + 1) (u ||| (xs[k].toNat ^^^ ys[k].toNat)) := by
  obtain ⟨h1, h2⟩ := h
  have a := xs[k].toNat_lt
  have b := ys[k].toNat_lt
  refine ⟨Nat.or_lt_two_pow (n := 41) h1 (Nat.lt_of_lt_of_le (Nat.xor_lt_two_pow (n := 8) a b) (by decide)), ?_⟩
  rw [Nat.or_eq_zero_iff, nxor_zero, h2, List.take_succ_eq_append_getElem hx, List.take_succ_eq_append_getElem hy]
  constructor
  · rintro ⟨⟨h3, h4⟩, h5⟩
    exact ⟨h3, by rw [h4, UInt8.toNat_inj.1 h5]⟩
  · rintro ⟨h3, h4⟩
    have h5 := List.append_inj h4 (by rw [List.length_take, List.length_take]; omega)
    refine ⟨⟨h3, h5.1⟩, ?_⟩
    have h6 : xs[k] = ys[k] := by simpa using h5.2
    rw [h6]
theorem sm_end {xs ys : List UInt8} {k u : Nat} (h : SmP xs ys k u) (hk : k = min xs.length ys.length) : ((u : Int) == 0) = decide (xs = ys) := by
  have e : u = 0 ↔ xs = ys := by
    rw [h.2]
    constructor
    · rintro ⟨h1, h2⟩
      rwa [List.take_of_length_le (by omega), List.take_of_length_le (by omega)] at h2
    · rintro rfl
      exact ⟨rfl, rfl⟩
  by_cases h0 : xs = ys
  · have := e.2 h0
    subst this
    rw [decide_eq_true h0]
    rfl
  · have : ¬ u = 0 := fun h1 => h0 (e.1 h1)
    rw [decide_eq_false h0, beq_eq_false_iff_ne]
    omega
def PsmRel (w : World) (xs ys : List UInt8) (c : Nat) (uv v : Value) (W : World) : Prop := ∃ k u n : Nat, v = .int .i64 (k : Int) ∧ uv = .int .i64 (u : Int) ∧ k ≤ c ∧ SmP xs ys k u ∧ W = w.drewN n
noncomputable def body_psm : Code := (((Try.f15.body.map loopsOf).getD [])[0]?).getD .skip
set_option maxRecDepth 100000 in
set_option maxHeartbeats 1000000 in
theorem psm_loop (c2 c3 c4 c6 c7 c8 c9 c10 c11 c12 c13 c14 c15 c18 c19 c20 c21 c22 c23 c24 c25 c26 c27 c28 c29 c30 c31 c32 c33 c34 : Value) (A B : Option Addr) (c d m u0 : Nat) (xs ys : List UInt8) (w : World) (hm1 : m ≤ xs.length) (hm2 : m ≤ ys.length) (hc2 : c ≤ 2 ^ 63 - 1) (_hd2 : d ≤ 2 ^ 63 - 1) (hc1 : xs.length ≤ c) (_hd1 : ys.length ≤ d)
    (HA : Hid (0 < xs.length → ∃ b off, A = some ⟨b, off, none⟩ ∧ b < w.heap.size ∧ ∀ i (h : i < xs.length), w.cell? ⟨b, off + i, none⟩ = some (.int .u8 ((xs[i]).toNat : Int))))
    (HB : Hid (0 < ys.length → ∃ b off, B = some ⟨b, off, none⟩ ∧ b < w.heap.size ∧ ∀ i (h : i < ys.length), w.cell? ⟨b, off + i, none⟩ = some (.int .u8 ((ys[i]).toNat : Int)))) (HS0 : Hid (SmP xs ys 0 u0)) {Q : Exit → Act → World → Prop}
    (HQ : Hid (∀ (u6 u17 u18 u19 u20 u21 u22 u23 u24 u25 u26 u27 u28 u29 u30 u31 u32 : Value) (u n : Nat), Hid (SmP xs ys m u) → Q (.exit 0) ⟨List.toArray ((.slice A xs.length c) :: (.slice B ys.length d) :: c2 :: c3 :: c4 :: (.int .i64 (u : Int)) :: u6 :: c7 :: c8 :: c9 :: c10 :: c11 :: c12 :: c13 :: c14 :: c15 :: (.int .i64 (m : Int)) :: u17 :: u18 :: u19 :: u20 :: u21 :: u22 :: u23 :: u24 :: u25 :: u26 :: u27 :: u28 :: u29 :: u30 :: u31 :: u32 :: c33 :: c34 :: []), []⟩ (w.drewN n))) :
    (Code.loop body_psm).wp Try.prog Q ⟨List.toArray ((.slice A xs.length c) :: (.slice B ys.length d) :: c2 :: c3 :: c4 :: (.int .i64 (u0 : Int)) :: c6 :: c7 :: c8 :: c9 :: c10 :: c11 :: c12 :: c13 :: c14 :: c15 :: (.int .i64 (m : Int)) :: (.int .i64 0) :: c18 :: c19 :: c20 :: c21 :: c22 :: c23 :: c24 :: c25 :: c26 :: c27 :: c28 :: c29 :: c30 :: c31 :: c32 :: c33 :: c34 :: []), []⟩ w := by
  unfold body_psm
  conv => arg 2; arg 1; whnf
  go_loopw [5, 17] (fun uv v wr => PsmRel w xs ys m uv v wr) (fun _ v _ => m - (intOf v).toNat)
  case atStart => exact ⟨0, u0, 0, rfl, rfl, by omega, HS0.out, rfl⟩
  case round =>
    obtain ⟨k, u, n, rfl, rfl, hk, hs, rfl⟩ := hrel
    have HS := Lib.hid hs
    clear hs
    by_cases hlt : k < m
    · have hkx : k < xs.length := by omega
      have hky : k < ys.length := by omega
      have kI : (k : Int) < m := by omega
      have kx : (k : Int) < xs.length := by omega
      have ky : (k : Int) < ys.length := by omega
      obtain ⟨b, off, rfl, hb1, hb2⟩ := HA.out (by omega)
      obtain ⟨b', off', rfl, hb1', hb2'⟩ := HB.out (by omega)
      have c1 := hb2 k hkx
      have c2 := hb2' k hky
      have HN := Lib.hid (sm_step HS.out hkx hky)
      obtain ⟨x, hx⟩ : ∃ x, x = xs[k].toNat := ⟨_, rfl⟩
      obtain ⟨y, hy⟩ : ∃ y, y = ys[k].toNat := ⟨_, rfl⟩
      have xl : x < 256 := by rw [hx]; exact UInt8.toNat_lt _
      have yl : y < 256 := by rw [hy]; exact UInt8.toNat_lt _
      rw [← hx, ← hy] at HN
      rw [← hx] at c1
      rw [← hy] at c2
      have e1 := u8_xor_nat x y xl yl
      obtain ⟨z, hz⟩ : ∃ z, z = x ^^^ y := ⟨_, rfl⟩
      have zl : z < 256 := by rw [hz]; exact Nat.xor_lt_two_pow (n := 8) xl yl
      rw [← hz] at e1 HN
      have zI : (z : Int) ≤ 255 := by omega
      have HO := Lib.hid (i64_or_nat u z HS.out.1 (by omega))
      clear hb2 hb2' hx hy hz hk
      go_wp2_with (fail)
      go_quiet (fail)
      go_wp2_with (fail)
      go_roundw
      case rel =>
        rw [HO.out]
        exact ⟨k + 1, _, _, by go_num, rfl, by omega, HN.out, rfl⟩
      case measure => simp [intOf]; omega
    · obtain rfl : k = m := by omega
      go_wp2_with (fail)
      exact HQ.out _ _ _ _ _ _ _ _ _ _ _ _ _ _ _ _ _ u n HS
set_option maxRecDepth 100000 in
set_option maxHeartbeats 1000000 in
theorem psame_any (va vb : Value) (xs ys : List UInt8) (w : World) (ha : Rd w va xs) (hb : Rd w vb ys) (hx : xs.length ≤ 1000000000000) (hy : ys.length ≤ 1000000000000) :
    Calls Try.prog 15 #[va, vb] w fun e w' => e = .returned (.bool (decide (xs = ys))) ∧ ∃ n, w' = w.drewN n := by
  obtain ⟨A, c, rfl, hc1, hc2, hA⟩ := ha.form
  obtain ⟨B, d, rfl, hd1, hd2, hB⟩ := hb.form
  unfold maxLen at hc2 hd2
  have HA := Lib.hid hA
  have HB := Lib.hid hB
  have HX := Lib.hid hx
  have HY := Lib.hid hy
  have s0 := sm_zero (xs := xs) (ys := ys) (by omega) (by omega)
  have x0 := i64_xor_nat xs.length ys.length (by omega) (by omega)
  obtain ⟨u0, hu0⟩ : ∃ u, u = xs.length ^^^ ys.length := ⟨_, rfl⟩
  rw [← hu0] at s0 x0
  have HS0 := Lib.hid s0
  clear hA hB ha hb s0 hu0 hx hy
  obtain ⟨b, hb⟩ : ∃ b, b = decide (xs = ys) := ⟨_, rfl⟩
  have HBB := Lib.hid hb
  rw [← hb]
  clear hb
  by_cases hle : xs.length ≤ ys.length
  · have hle1 : (xs.length : Int) ≤ (ys.length : Int) := by omega
    go_enter Try.func15, Try.ntmps15
    go_wp2_with (fail)
    refine psm_loop _ _ _ _ _ _ _ _ _ _ _ _ _ _ _ _ _ _ _ _ _ _ _ _ _ _ _ _ _ _ A B c d xs.length u0 xs ys w (by omega) (by omega) hc2 hd2 hc1 hd1 HA HB HS0 (Lib.hid ?_)
    intro u6 u17 u18 u19 u20 u21 u22 u23 u24 u25 u26 u27 u28 u29 u30 u31 u32 u n hs
    have h1 : ((u : Int) == 0) = b := by rw [HBB.out]; exact sm_end hs.out (by omega)
    go_wp2_with (fail)
    go_ret
    exact ⟨rfl, _, rfl⟩
  · have hle1 : ¬ (xs.length : Int) ≤ (ys.length : Int) := by omega
    go_enter Try.func15, Try.ntmps15
    go_wp2_with (fail)
    refine psm_loop _ _ _ _ _ _ _ _ _ _ _ _ _ _ _ _ _ _ _ _ _ _ _ _ _ _ _ _ _ _ A B c d ys.length u0 xs ys w (by omega) (by omega) hc2 hd2 hc1 hd1 HA HB HS0 (Lib.hid ?_)
    intro u6 u17 u18 u19 u20 u21 u22 u23 u24 u25 u26 u27 u28 u29 u30 u31 u32 u n hs
    have h1 : ((u : Int) == 0) = b := by rw [HBB.out]; exact sm_end hs.out (by omega)
    go_wp2_with (fail)
    go_ret
    exact ⟨rfl, _, rfl⟩
end Go.Proofs.Ytlcpplnajaldgaa
