/- The fifth reference's Tag: the loops that lay the tag. Conditions: ten digits of which none is too great; a key of 32 bytes. -/
import Derived.Test.YtlcpplnajaldgaaPolMath
import Derived.Test.YtlcpplnajaldgaaW64
import Derived.IntWalk
namespace Go.Proofs.Ytlcpplnajaldgaa
open Go.RowKit

theorem num_digit : ∀ (xs : List UInt8) (i : Nat) (hi : i < xs.length), numB xs / 256 ^ i % 256 = xs[i].toNat := by
  intro xs
  induction xs with
  | nil => intro i hi; simp at hi
  | cons x r ih =>
    intro i hi
    have hx := x.toNat_lt
    cases i with
    | zero => simp only [numB, Nat.pow_zero, Nat.div_one, List.getElem_cons_zero]; omega
    | succ i =>
      rw [List.getElem_cons_succ, ← ih i (by simpa using hi), numB, Nat.pow_succ, Nat.mul_comm (256 ^ i), ← Nat.div_div_eq_div_mul]
      congr 2
      omega
theorem carry_step (N S i : Nat) : (N % 256 ^ (i + 1) + S % 256 ^ (i + 1)) / 256 ^ (i + 1) = ((N % 256 ^ i + S % 256 ^ i) / 256 ^ i + N / 256 ^ i % 256 + S / 256 ^ i % 256) / 256 ∧ (N + S) / 256 ^ i % 256 = ((N % 256 ^ i + S % 256 ^ i) / 256 ^ i + N / 256 ^ i % 256 + S / 256 ^ i % 256) % 256 := by
  have hp : 0 < (256 : Nat) ^ i := Nat.pow_pos (by decide)
  obtain ⟨p, hpp⟩ : ∃ p, p = (256 : Nat) ^ i := ⟨_, rfl⟩
  rw [Nat.pow_succ, ← hpp]
  rw [← hpp] at hp
  constructor
  · rw [Nat.mod_mul, Nat.mod_mul, ← Nat.div_div_eq_div_mul]
    have e : N % p + p * (N / p % 256) + (S % p + p * (S / p % 256)) = (N % p + S % p) + p * (N / p % 256 + S / p % 256) := by rw [Nat.mul_add]; omega
    rw [e, Nat.add_mul_div_left _ _ hp, Nat.add_assoc]
  · have e : N + S = (N % p + S % p) + p * (N / p + S / p) := by
      have h1 := Nat.mod_add_div N p
      have h2 := Nat.mod_add_div S p
      rw [Nat.mul_add]
      omega
    rw [e, Nat.add_mul_div_left _ _ hp]
    obtain ⟨x, hx⟩ : ∃ x, x = N / p := ⟨_, rfl⟩
    obtain ⟨y, hy⟩ : ∃ y, y = S / p := ⟨_, rfl⟩
    obtain ⟨z, hz⟩ : ∃ z, z = (N % p + S % p) / p := ⟨_, rfl⟩
    rw [← hx, ← hy, ← hz]
    omega
theorem carry_small (N S i : Nat) : (N % 256 ^ i + S % 256 ^ i) / 256 ^ i ≤ 1 := by
  have hp : 0 < (256 : Nat) ^ i := Nat.pow_pos (by decide)
  have h1 := Nat.mod_lt N hp
  have h2 := Nat.mod_lt S hp
  have h3 : (N % 256 ^ i + S % 256 ^ i) / 256 ^ i < 2 := by rw [Nat.div_lt_iff_lt_mul hp]; omega
  omega
theorem leB_mod (k n : Nat) : leB k (n % 256 ^ k) = leB k n := by
  induction k generalizing n with
  | zero => rfl
  | succ k ih =>
    rw [leB, leB, Nat.pow_succ, Nat.mul_comm (256 ^ k) 256, Nat.mod_mul_right_mod, Nat.mod_mul_right_div_self, ih]
def OuiRel (w : World) (M : Nat) (nv v : Value) (W : World) : Prop := ∃ (k m : Nat), v = .int .i64 (k : Int) ∧ k ≤ 8 ∧ nv = .int .u64 ((M % 2 ^ k : Nat) : Int) ∧ W = w.drewN m
noncomputable def body_oui : Code := (((Try.f11.body.map loopsOf).getD [])[6]?).getD .skip
set_option maxRecDepth 100000 in
set_option maxHeartbeats 2000000 in
theorem oui_loop (c0 c1 c2 c3 c4 c5 c6 c7 c8 c10 c11 c12 c13 c14 c15 c16 c17 c18 c19 c23 c24 c25 c26 c27 c28 c29 c30 c31 c32 c33 c34 c35 c36 c37 c38 c39 c40 c41 c42 c43 c44 c45 c46 c47 c48 c49 c50 c51 c52 c53 c54 c55 c56 c57 c58 c59 c60 c61 c62 c63 c64 c65 c66 c67 c68 c69 c70 c71 c72 c73 c74 c75 c76 c77 c78 c79 c80 c81 c82 c83 c84 c85 c86 c87 c88 c89 c90 c91 c92 c93 c94 c95 c96 c97 c98 c99 c100 c101 c102 c103 c104 c105 c106 c107 c108 c109 c110 c111 c112 c113 c114 c115 c116 c117 c118 c119 c120 c121 c122 c123 c124 c125 c126 c127 c128 c129 c130 c131 c132 c133 c134 c135 c136 c137 c138 c139 c140 c141 c142 c143 c144 c145 c146 c147 c148 c149 c150 c151 c152 c153 c154 c155 c156 c157 c158 c159 c160 c161 c162 c163 c164 c165 c166 c167 c168 c169 c170 c171 c172 c173 c174 c175 c176 c177 c178 c179 c180 c181 c182 c183 c184 c185 c186 c187 c188 c189 c190 : Value) (H ch i : Nat) (hs : List Nat) (w : World) (hi : i < 16) (hl : Hid (hs.length = 10)) (hm : Hid (∀ x ∈ hs, x < 8192)) (hh : Hid (∀ i, i < 10 → w.cell? ⟨H, i, none⟩ = some (.int .u64 ((hs.getD i 0 : Nat) : Int)))) {Q : Exit → Act → World → Prop}
    (HQ : Hid (∀ (u22 u23 u151 u152 u153 u154 u155 u156 u157 u158 u159 u160 u161 u162 u163 u164 u165 u166 u167 u168 u169 u170 u171 u172 u173 : Value) (m : Nat), Q (.exit 12) ⟨List.toArray (c0 :: c1 :: c2 :: c3 :: c4 :: c5 :: c6 :: c7 :: c8 :: (.slice (some ⟨H, 0, none⟩) 10 ch) :: c10 :: c11 :: c12 :: c13 :: c14 :: c15 :: c16 :: c17 :: c18 :: c19 :: (.int .i64 (i : Int)) :: (.int .u64 ((dv hs / 256 ^ i % 256 : Nat) : Int)) :: u22 :: u23 :: c24 :: c25 :: c26 :: c27 :: c28 :: c29 :: c30 :: c31 :: c32 :: c33 :: c34 :: c35 :: c36 :: c37 :: c38 :: c39 :: c40 :: c41 :: c42 :: c43 :: c44 :: c45 :: c46 :: c47 :: c48 :: c49 :: c50 :: c51 :: c52 :: c53 :: c54 :: c55 :: c56 :: c57 :: c58 :: c59 :: c60 :: c61 :: c62 :: c63 :: c64 :: c65 :: c66 :: c67 :: c68 :: c69 :: c70 :: c71 :: c72 :: c73 :: c74 :: c75 :: c76 :: c77 :: c78 :: c79 :: c80 :: c81 :: c82 :: c83 :: c84 :: c85 :: c86 :: c87 :: c88 :: c89 :: c90 :: c91 :: c92 :: c93 :: c94 :: c95 :: c96 :: c97 :: c98 :: c99 :: c100 :: c101 :: c102 :: c103 :: c104 :: c105 :: c106 :: c107 :: c108 :: c109 :: c110 :: c111 :: c112 :: c113 :: c114 :: c115 :: c116 :: c117 :: c118 :: c119 :: c120 :: c121 :: c122 :: c123 :: c124 :: c125 :: c126 :: c127 :: c128 :: c129 :: c130 :: c131 :: c132 :: c133 :: c134 :: c135 :: c136 :: c137 :: c138 :: c139 :: c140 :: c141 :: c142 :: c143 :: c144 :: c145 :: c146 :: c147 :: c148 :: c149 :: c150 :: u151 :: u152 :: u153 :: u154 :: u155 :: u156 :: u157 :: u158 :: u159 :: u160 :: u161 :: u162 :: u163 :: u164 :: u165 :: u166 :: u167 :: u168 :: u169 :: u170 :: u171 :: u172 :: u173 :: c174 :: c175 :: c176 :: c177 :: c178 :: c179 :: c180 :: c181 :: c182 :: c183 :: c184 :: c185 :: c186 :: c187 :: c188 :: c189 :: c190 :: []), []⟩ (w.drewN m))) :
    (Code.loop body_oui).wp Try.prog Q ⟨List.toArray (c0 :: c1 :: c2 :: c3 :: c4 :: c5 :: c6 :: c7 :: c8 :: (.slice (some ⟨H, 0, none⟩) 10 ch) :: c10 :: c11 :: c12 :: c13 :: c14 :: c15 :: c16 :: c17 :: c18 :: c19 :: (.int .i64 (i : Int)) :: (.int .u64 0) :: (.int .i64 0) :: c23 :: c24 :: c25 :: c26 :: c27 :: c28 :: c29 :: c30 :: c31 :: c32 :: c33 :: c34 :: c35 :: c36 :: c37 :: c38 :: c39 :: c40 :: c41 :: c42 :: c43 :: c44 :: c45 :: c46 :: c47 :: c48 :: c49 :: c50 :: c51 :: c52 :: c53 :: c54 :: c55 :: c56 :: c57 :: c58 :: c59 :: c60 :: c61 :: c62 :: c63 :: c64 :: c65 :: c66 :: c67 :: c68 :: c69 :: c70 :: c71 :: c72 :: c73 :: c74 :: c75 :: c76 :: c77 :: c78 :: c79 :: c80 :: c81 :: c82 :: c83 :: c84 :: c85 :: c86 :: c87 :: c88 :: c89 :: c90 :: c91 :: c92 :: c93 :: c94 :: c95 :: c96 :: c97 :: c98 :: c99 :: c100 :: c101 :: c102 :: c103 :: c104 :: c105 :: c106 :: c107 :: c108 :: c109 :: c110 :: c111 :: c112 :: c113 :: c114 :: c115 :: c116 :: c117 :: c118 :: c119 :: c120 :: c121 :: c122 :: c123 :: c124 :: c125 :: c126 :: c127 :: c128 :: c129 :: c130 :: c131 :: c132 :: c133 :: c134 :: c135 :: c136 :: c137 :: c138 :: c139 :: c140 :: c141 :: c142 :: c143 :: c144 :: c145 :: c146 :: c147 :: c148 :: c149 :: c150 :: c151 :: c152 :: c153 :: c154 :: c155 :: c156 :: c157 :: c158 :: c159 :: c160 :: c161 :: c162 :: c163 :: c164 :: c165 :: c166 :: c167 :: c168 :: c169 :: c170 :: c171 :: c172 :: c173 :: c174 :: c175 :: c176 :: c177 :: c178 :: c179 :: c180 :: c181 :: c182 :: c183 :: c184 :: c185 :: c186 :: c187 :: c188 :: c189 :: c190 :: []), []⟩ w := by
  obtain ⟨M, hM⟩ : ∃ M, M = dv hs / 256 ^ i := ⟨_, rfl⟩
  rw [← hM] at HQ
  have iI : (i : Int) < 16 := by omega
  unfold body_oui
  conv => arg 2; arg 1; whnf
  go_loopw [21, 22] (fun nv v wx => OuiRel w M nv v wx) (fun _ v _ => 8 - (intOf v).toNat)
  case atStart => exact ⟨0, 0, rfl, by omega, congrArg (Value.int .u64) (by simp [Nat.mod_one]), rfl⟩
  case round =>
    obtain ⟨k, m0, rfl, hk, rfl, rfl⟩ := hrel
    by_cases hlt : k < 8
    · have kI : (k : Int) < 8 := by omega
      obtain ⟨t, ht⟩ : ∃ t, t = 8 * i + k := ⟨_, rfl⟩
      obtain ⟨q, hq⟩ : ∃ q, q = t / 13 := ⟨_, rfl⟩
      obtain ⟨r, hr⟩ : ∃ r, r = t % 13 := ⟨_, rfl⟩
      have q10 : q < 10 := by omega
      have ce := hh.out q q10
      obtain ⟨e, he⟩ : ∃ e, e = hs.getD q 0 := ⟨_, rfl⟩
      rw [← he] at ce
      have el : e < 8192 := by
        rw [he, List.getD, List.getElem?_eq_getElem (by rw [hl.out]; exact q10)]
        exact hm.out _ (List.getElem_mem _)
      have hbit : e / 2 ^ r % 2 = M / 2 ^ k % 2 := by
        have h1 := bit_at (dv hs) t
        rw [dv_digit hs hm.out, ← hq, ← hr, ← he] at h1
        rw [h1, hM, ht, Nat.div_div_eq_div_mul, show (256 : Nat) = 2 ^ 8 from rfl, ← Nat.pow_mul, ← Nat.pow_add]
      have HL := Lib.hid (low_succ M k)
      obtain ⟨n, hn⟩ : ∃ n, n = M % 2 ^ k := ⟨_, rfl⟩
      have nl : n < 256 := by
        have h1 := Nat.mod_lt M (Nat.two_pow_pos k)
        have h2 := Nat.pow_le_pow_right (n := 2) (by decide) (show k ≤ 8 by omega)
        omega
      obtain ⟨y, hy⟩ : ∃ y, y = M / 2 ^ k % 2 := ⟨_, rfl⟩
      have yl : y < 2 := by rw [hy]; exact Nat.mod_lt _ (by decide)
      rw [← hn, ← hy] at HL
      rw [← hn]
      obtain ⟨pr, hpr⟩ : ∃ p, p = 2 ^ r := ⟨_, rfl⟩
      obtain ⟨pk, hpk⟩ : ∃ p, p = 2 ^ k := ⟨_, rfl⟩
      have pr0 : 0 < pr := by rw [hpr]; exact Nat.two_pow_pos _
      have prl : pr ≤ 4096 := by
        have := Nat.pow_le_pow_right (n := 2) (by decide) (show r ≤ 12 by omega)
        omega
      have pkl : pk ≤ 128 := by
        have := Nat.pow_le_pow_right (n := 2) (by decide) (show k ≤ 7 by omega)
        omega
      have tI : (t : Int) = 8 * (i : Int) + (k : Int) := by omega
      have a0 : 8 * (i : Int) + (k : Int) = (t : Int) := tI.symm
      have tl : (t : Int) ≤ 127 := by omega
      have a1 : (t : Int).tdiv 13 = (q : Int) := by rw [Int.tdiv_eq_ediv_of_nonneg (by omega)]; omega
      have a1' : (t : Int) / 13 = (q : Int) := by omega
      have a3 : (t : Int).tmod 13 = (r : Int) := by rw [Int.tmod_eq_emod_of_nonneg (by omega)]; omega
      have a3' : (t : Int) % 13 = (r : Int) := by omega
      have a5 : (2 : Int) ^ r = (pr : Int) := by rw [hpr]; simp
      have a5' : (2 : Int) ^ k = (pk : Int) := by rw [hpk]; simp
      obtain ⟨e0, he0⟩ : ∃ x, x = e / pr := ⟨_, rfl⟩
      have e0l : e0 ≤ 8191 := by have := Nat.div_le_self e pr; omega
      have d1 : (e : Int).tdiv (pr : Int) = (e0 : Int) := by rw [Int.tdiv_eq_ediv_of_nonneg (by omega), he0]; simp
      have d2 : (e : Int) / (pr : Int) = (e0 : Int) := by rw [he0]; simp
      have hyy : y = e0 % 2 := by rw [hy, ← hbit, he0, hpr]
      have c1 : (e0 : Int).tmod 2 = (y : Int) := by rw [Int.tmod_eq_emod_of_nonneg (by omega)]; omega
      have c2 : (e0 : Int) % 2 = (y : Int) := by omega
      obtain ⟨m, hm2⟩ : ∃ m, m = y * pk := ⟨_, rfl⟩
      have ml : m ≤ 128 := by
        rw [hm2]
        have : y = 0 ∨ y = 1 := by omega
        rcases this with h | h <;> rw [h] <;> omega
      have c3 : (y : Int) * (pk : Int) = (m : Int) := by rw [hm2]; simp
      have p3 : ¬ (pr : Int) = 0 := by omega
      have p4 : ((pr : Int) == 0) = false := by rw [beq_eq_false_iff_ne]; omega
      have qI : (q : Int) < 10 := by omega
      have rI : (r : Int) < 13 := by omega
      have HK : Hid (n + m = M % 2 ^ (k + 1)) := by show _ = _; rw [HL.out, hm2, hpk, Nat.mul_comm y]
      have HT := Lib.hid ht
      have w1 : IntKind.i64.wrap (q : Int) = (q : Int) := IntWalk.i64_in _ (by clear a0 a1 a1' a3 a3' a5 a5' d1 d2 c1 c2 c3; omega)
      have w2 : IntKind.i64.wrap (r : Int) = (r : Int) := IntWalk.i64_in _ (by clear a0 a1 a1' a3 a3' a5 a5' d1 d2 c1 c2 c3 w1; omega)
      have w3 : IntKind.u64.wrap (pr : Int) = (pr : Int) := IntWalk.u64_in _ (by clear a0 a1 a1' a3 a3' a5 a5' d1 d2 c1 c2 c3 w1 w2; omega)
      have w4 : IntKind.u64.wrap (pk : Int) = (pk : Int) := IntWalk.u64_in _ (by clear a0 a1 a1' a3 a3' a5 a5' d1 d2 c1 c2 c3 w1 w2 w3; omega)
      have w5 : IntKind.u64.wrap (e0 : Int) = (e0 : Int) := IntWalk.u64_in _ (by clear a0 a1 a1' a3 a3' a5 a5' d1 d2 c1 c2 c3 w1 w2 w3 w4; omega)
      have w6 : IntKind.u64.wrap (y : Int) = (y : Int) := IntWalk.u64_in _ (by clear a0 a1 a1' a3 a3' a5 a5' d1 d2 c1 c2 c3 w1 w2 w3 w4 w5; omega)
      have w7 : IntKind.u64.wrap (m : Int) = (m : Int) := IntWalk.u64_in _ (by clear a0 a1 a1' a3 a3' a5 a5' d1 d2 c1 c2 c3 w1 w2 w3 w4 w5 w6; omega)
      have w8 : IntKind.u64.wrap ((n : Int) + (m : Int)) = (n : Int) + (m : Int) := IntWalk.u64_in _ (by clear a0 a1 a1' a3 a3' a5 a5' d1 d2 c1 c2 c3 w1 w2 w3 w4 w5 w6 w7; omega)
      have w9 : IntKind.i64.wrap (t : Int) = (t : Int) := IntWalk.i64_in _ (by clear a0 a1 a1' a3 a3' a5 a5' d1 d2 c1 c2 c3 w1 w2 w3 w4 w5 w6 w7 w8; omega)
      clear tI ht hq hr he hbit hn hy hpr hpk he0 hyy hm2 q10 hk
      go_wp2_with (fail)
      go_quiet (fail)
      go_wp2_with (fail)
      clear a0 a1 a1' a3 a3' a5 a5' d1 d2 c1 c2 c3 w1 w2 w3 w4 w5 w6 w7 w8 w9
      go_roundw
      case rel => exact ⟨k + 1, _, by go_num, by omega, by rw [← HK.out]; go_num, rfl⟩
      case measure => simp [intOf]; omega
    · obtain rfl : k = 8 := by omega
      go_wp2_with (fail)
      exact HQ.out _ _ _ _ _ _ _ _ _ _ _ _ _ _ _ _ _ _ _ _ _ _ _ _ _ m0
/-- The first i bytes of a number, and zeros in the place of the rest, to 16. -/
def row16 (T i : Nat) : List UInt8 := leB i T ++ List.replicate (16 - i) 0
theorem row16_set {T i : Nat} (h : i < 16) : (row16 T i).set i (UInt8.ofNat (T / 256 ^ i % 256)) = row16 T (i + 1) := by
  unfold row16
  rw [List.set_append_right _ _ (by rw [leB_length]; exact Nat.le_refl _), leB_length, Nat.sub_self, show 16 - i = (16 - (i + 1)) + 1 by omega, List.replicate_succ, List.set_cons_zero, leB_snoc, List.append_assoc]
  rfl
theorem row16_length {T i : Nat} (h : i ≤ 16) : (row16 T i).length = 16 := by unfold row16; rw [List.length_append, leB_length, List.length_replicate]; omega
def OuoRel (w : World) (OB : Nat) (T : TypeId) (N S : Nat) (cv v : Value) (W : World) : Prop := ∃ i : Nat, v = .int .i64 (i : Int) ∧ i ≤ 16 ∧ cv = .int .u64 (((N % 256 ^ i + S % 256 ^ i) / 256 ^ i : Nat) : Int) ∧ Blk W OB T ((row16 (N + S) i).map bv) ∧ Sole w W OB
noncomputable def body_ouo : Code := (((Try.f11.body.map loopsOf).getD [])[5]?).getD .skip
set_option maxRecDepth 100000 in
set_option maxHeartbeats 2000000 in
theorem ouo_loop (c0 c1 c3 c4 c5 c6 c7 c8 c10 c11 c12 c13 c14 c15 c16 c17 c21 c22 c23 c24 c25 c26 c27 c28 c29 c30 c31 c32 c33 c34 c35 c36 c37 c38 c39 c40 c41 c42 c43 c44 c45 c46 c47 c48 c49 c50 c51 c52 c53 c54 c55 c56 c57 c58 c59 c60 c61 c62 c63 c64 c65 c66 c67 c68 c69 c70 c71 c72 c73 c74 c75 c76 c77 c78 c79 c80 c81 c82 c83 c84 c85 c86 c87 c88 c89 c90 c91 c92 c93 c94 c95 c96 c97 c98 c99 c100 c101 c102 c103 c104 c105 c106 c107 c108 c109 c110 c111 c112 c113 c114 c115 c116 c117 c118 c119 c120 c121 c122 c123 c124 c125 c126 c127 c128 c129 c130 c131 c132 c133 c134 c135 c136 c137 c138 c139 c140 c141 c142 c143 c144 c145 c146 c147 c148 c149 c150 c151 c152 c153 c154 c155 c156 c157 c158 c159 c160 c161 c162 c163 c164 c165 c166 c167 c168 c169 c170 c171 c172 c173 c174 c175 c176 c177 c178 c179 c180 c181 c182 c183 c184 c185 c186 c187 c188 c189 c190 : Value) (H ch KB OB : Nat) (TK TO : TypeId) (hs : List Nat) (k : List UInt8) (w : World) (hl : Hid (hs.length = 10)) (hm : Hid (∀ x ∈ hs, x < 8192)) (hkl : Hid (k.length = 32)) (hh : Hid (∀ i, i < 10 → w.cell? ⟨H, i, none⟩ = some (.int .u64 ((hs.getD i 0 : Nat) : Int)))) (hkb : Hid (Blk w KB TK (k.map bv))) (hne1 : H ≠ OB) (hne2 : KB ≠ OB)
    (h0 : Hid (Blk w OB TO ((row16 (dv hs + sN k) 0).map bv))) {Q : Exit → Act → World → Prop}
    (HQ : Hid (∀ (u19 u20 u21 u22 u23 u147 u148 u149 u150 u151 u152 u153 u154 u155 u156 u157 u158 u159 u160 u161 u162 u163 u164 u165 u166 u167 u168 u169 u170 u171 u172 u173 u174 u175 u176 u177 u178 u179 u180 u181 u182 u183 u184 u185 u186 u187 u188 u189 : Value) (wx : World), Hid (Blk wx OB TO ((leB 16 (dv hs + sN k)).map bv)) → Hid (Sole w wx OB) → Q (.exit 10) ⟨List.toArray (c0 :: c1 :: (.pointer (some ⟨KB, 0, none⟩)) :: c3 :: c4 :: c5 :: c6 :: c7 :: c8 :: (.slice (some ⟨H, 0, none⟩) 10 ch) :: c10 :: c11 :: c12 :: c13 :: c14 :: c15 :: c16 :: c17 :: (.pointer (some ⟨OB, 0, none⟩)) :: u19 :: u20 :: u21 :: u22 :: u23 :: c24 :: c25 :: c26 :: c27 :: c28 :: c29 :: c30 :: c31 :: c32 :: c33 :: c34 :: c35 :: c36 :: c37 :: c38 :: c39 :: c40 :: c41 :: c42 :: c43 :: c44 :: c45 :: c46 :: c47 :: c48 :: c49 :: c50 :: c51 :: c52 :: c53 :: c54 :: c55 :: c56 :: c57 :: c58 :: c59 :: c60 :: c61 :: c62 :: c63 :: c64 :: c65 :: c66 :: c67 :: c68 :: c69 :: c70 :: c71 :: c72 :: c73 :: c74 :: c75 :: c76 :: c77 :: c78 :: c79 :: c80 :: c81 :: c82 :: c83 :: c84 :: c85 :: c86 :: c87 :: c88 :: c89 :: c90 :: c91 :: c92 :: c93 :: c94 :: c95 :: c96 :: c97 :: c98 :: c99 :: c100 :: c101 :: c102 :: c103 :: c104 :: c105 :: c106 :: c107 :: c108 :: c109 :: c110 :: c111 :: c112 :: c113 :: c114 :: c115 :: c116 :: c117 :: c118 :: c119 :: c120 :: c121 :: c122 :: c123 :: c124 :: c125 :: c126 :: c127 :: c128 :: c129 :: c130 :: c131 :: c132 :: c133 :: c134 :: c135 :: c136 :: c137 :: c138 :: c139 :: c140 :: c141 :: c142 :: c143 :: c144 :: c145 :: c146 :: u147 :: u148 :: u149 :: u150 :: u151 :: u152 :: u153 :: u154 :: u155 :: u156 :: u157 :: u158 :: u159 :: u160 :: u161 :: u162 :: u163 :: u164 :: u165 :: u166 :: u167 :: u168 :: u169 :: u170 :: u171 :: u172 :: u173 :: u174 :: u175 :: u176 :: u177 :: u178 :: u179 :: u180 :: u181 :: u182 :: u183 :: u184 :: u185 :: u186 :: u187 :: u188 :: u189 :: c190 :: []), []⟩ wx)) :
    (Code.loop body_ouo).wp Try.prog Q ⟨List.toArray (c0 :: c1 :: (.pointer (some ⟨KB, 0, none⟩)) :: c3 :: c4 :: c5 :: c6 :: c7 :: c8 :: (.slice (some ⟨H, 0, none⟩) 10 ch) :: c10 :: c11 :: c12 :: c13 :: c14 :: c15 :: c16 :: c17 :: (.pointer (some ⟨OB, 0, none⟩)) :: (.int .u64 0) :: (.int .i64 0) :: c21 :: c22 :: c23 :: c24 :: c25 :: c26 :: c27 :: c28 :: c29 :: c30 :: c31 :: c32 :: c33 :: c34 :: c35 :: c36 :: c37 :: c38 :: c39 :: c40 :: c41 :: c42 :: c43 :: c44 :: c45 :: c46 :: c47 :: c48 :: c49 :: c50 :: c51 :: c52 :: c53 :: c54 :: c55 :: c56 :: c57 :: c58 :: c59 :: c60 :: c61 :: c62 :: c63 :: c64 :: c65 :: c66 :: c67 :: c68 :: c69 :: c70 :: c71 :: c72 :: c73 :: c74 :: c75 :: c76 :: c77 :: c78 :: c79 :: c80 :: c81 :: c82 :: c83 :: c84 :: c85 :: c86 :: c87 :: c88 :: c89 :: c90 :: c91 :: c92 :: c93 :: c94 :: c95 :: c96 :: c97 :: c98 :: c99 :: c100 :: c101 :: c102 :: c103 :: c104 :: c105 :: c106 :: c107 :: c108 :: c109 :: c110 :: c111 :: c112 :: c113 :: c114 :: c115 :: c116 :: c117 :: c118 :: c119 :: c120 :: c121 :: c122 :: c123 :: c124 :: c125 :: c126 :: c127 :: c128 :: c129 :: c130 :: c131 :: c132 :: c133 :: c134 :: c135 :: c136 :: c137 :: c138 :: c139 :: c140 :: c141 :: c142 :: c143 :: c144 :: c145 :: c146 :: c147 :: c148 :: c149 :: c150 :: c151 :: c152 :: c153 :: c154 :: c155 :: c156 :: c157 :: c158 :: c159 :: c160 :: c161 :: c162 :: c163 :: c164 :: c165 :: c166 :: c167 :: c168 :: c169 :: c170 :: c171 :: c172 :: c173 :: c174 :: c175 :: c176 :: c177 :: c178 :: c179 :: c180 :: c181 :: c182 :: c183 :: c184 :: c185 :: c186 :: c187 :: c188 :: c189 :: c190 :: []), []⟩ w := by
  obtain ⟨N, hN⟩ : ∃ N, N = dv hs := ⟨_, rfl⟩
  obtain ⟨S, hS⟩ : ∃ S, S = sN k := ⟨_, rfl⟩
  have HNN := Lib.hid hN
  have HSS := Lib.hid hS
  rw [← hN, ← hS] at HQ h0
  clear hN hS
  unfold body_ouo
  conv => arg 2; arg 1; whnf
  go_loopw [19, 20] (fun cv v wx => OuoRel w OB TO N S cv v wx) (fun _ v _ => 16 - (intOf v).toNat)
  case atStart => exact ⟨0, rfl, by omega, congrArg (Value.int .u64) (by simp [Nat.mod_one]), h0.out, Sole.refl _ _⟩
  case round =>
    obtain ⟨i, rfl, hi, rfl, hblk, so⟩ := hrel
    have HB := Lib.hid hblk
    have HL := Lib.hid so
    by_cases hlt : i < 16
    · have hI : (i : Int) < 16 := by omega
      have HH := Lib.hid (fun j (hj : j < 10) => (so.cell (p := ⟨H, j, none⟩) hne1).trans (hh.out j hj))
      obtain ⟨c, hc⟩ : ∃ c, c = (N % 256 ^ i + S % 256 ^ i) / 256 ^ i := ⟨_, rfl⟩
      have cl : (c : Int) ≤ 1 := by have := carry_small N S i; omega
      have HCS := Lib.hid (carry_step N S i)
      obtain ⟨n, hn⟩ : ∃ n, n = N / 256 ^ i % 256 := ⟨_, rfl⟩
      have nl : n < 256 := by rw [hn]; exact Nat.mod_lt _ (by decide)
      obtain ⟨s, hs2⟩ : ∃ s, s = k[16 + i]'(by rw [hkl.out]; omega) := ⟨_, rfl⟩
      have hsd : S / 256 ^ i % 256 = s.toNat := by
        have h := num_digit (k.drop 16) i (by rw [List.length_drop, hkl.out]; omega)
        rw [HSS.out]
        unfold sN
        rw [h, List.getElem_drop, hs2]
      have sl : (s.toNat : Int) ≤ 255 := by have := s.toNat_lt; omega
      have cs : wr.cell? ⟨KB, 16 + i, none⟩ = some (.int .u8 (s.toNat : Int)) := by
        rw [(so.blk hkb.out hne2).cell, List.getElem?_map, List.getElem?_eq_getElem (by rw [hkl.out]; omega), ← hs2]
        rfl
      rw [hsd, ← hc, ← hn] at HCS
      have HNV : Hid (n = dv hs / 256 ^ i % 256) := Lib.hid (by rw [hn, HNN.out])
      rw [← hc]
      have nI : (n : Int) ≤ 255 := by omega
      have HNL := Lib.hid nl
      clear hblk so hi hc hn hs2 hsd nl
      go_wp2_with (fail)
      refine oui_loop _ _ _ _ _ _ _ _ _ _ _ _ _ _ _ _ _ _ _ _ _ _ _ _ _ _ _ _ _ _ _ _ _ _ _ _ _ _ _ _ _ _ _ _ _ _ _ _ _ _ _ _ _ _ _ _ _ _ _ _ _ _ _ _ _ _ _ _ _ _ _ _ _ _ _ _ _ _ _ _ _ _ _ _ _ _ _ _ _ _ _ _ _ _ _ _ _ _ _ _ _ _ _ _ _ _ _ _ _ _ _ _ _ _ _ _ _ _ _ _ _ _ _ _ _ _ _ _ _ _ _ _ _ _ _ _ _ _ _ _ _ _ _ _ _ _ _ _ _ _ _ _ _ _ _ _ _ _ _ _ _ _ _ _ _ _ _ _ _ _ _ _ _ _ _ _ _ _ _ _ _ _ _ _ _ _ _ H ch i hs wr hlt hl hm HH (Lib.hid ?_)
      intro u22 u23 u151 u152 u153 u154 u155 u156 u157 u158 u159 u160 u161 u162 u163 u164 u165 u166 u167 u168 u169 u170 u171 u172 u173 m
      rw [← HNV.out]
      obtain ⟨wa, hwa⟩ : ∃ W : World, W = wr.drewN m := ⟨_, rfl⟩
      have HB2 : Hid (Blk wa OB TO ((row16 (N + S) i).map bv)) := Lib.hid (hwa ▸ HB.out)
      have HL2 : Hid (Sole w wa OB) := Lib.hid (by rw [hwa]; exact ⟨below_drewN HL.out.below m, HL.out.size, HL.out.other⟩)
      have cs2 : wa.cell? ⟨KB, 16 + i, none⟩ = some (.int .u8 (s.toNat : Int)) := hwa ▸ cs
      have f0 : wa.frozen? ⟨OB, i, none⟩ = false := HB2.out.free _
      obtain ⟨u, hu⟩ : ∃ u, wa.cell? ⟨OB, i, none⟩ = some u := by
        refine ⟨((row16 (N + S) i).map bv)[i]'?_, ?_⟩
        · rw [List.length_map, row16_length (by omega)]; exact hlt
        · rw [HB2.out.cell]; exact List.getElem?_eq_getElem _
      have k1 : (16 + (i : Int)).toNat = 16 + i := by omega
      have k2 : 16 + (i : Int) < 32 := by omega
      rw [← hwa]
      clear hwa cs HB HL
      go_wp2_with (fail)
      go_roundw
      case rel =>
        have h := HB2.out.set i (bv (UInt8.ofNat ((N + S) / 256 ^ i % 256)))
        rw [← List.map_set, row16_set hlt] at h
        have e1 : bv (UInt8.ofNat ((N + S) / 256 ^ i % 256)) = Value.int .u8 (((c : Int) + (n : Int) + (s.toNat : Int)) % 256) := by
          unfold bv
          rw [UInt8.toNat_ofNat', Nat.mod_mod_of_dvd _ (by decide), HCS.out.2]
          exact congrArg (Value.int .u8) (by omega)
        rw [e1] at h
        refine ⟨i + 1, by go_num, by omega, ?_, h, HL2.out.trans (Sole.setCell _ OB i _)⟩
        rw [HCS.out.1]
        exact congrArg (Value.int .u64) (by omega)
      case measure => simp [intOf]; omega
    · obtain rfl : i = 16 := by omega
      have HB2 : Hid (Blk wr OB TO ((leB 16 (N + S)).map bv)) := Lib.hid (by simpa [row16] using hblk)
      clear hblk so
      go_wp2_with (fail)
      exact HQ.out _ _ _ _ _ _ _ _ _ _ _ _ _ _ _ _ _ _ _ _ _ _ _ _ _ _ _ _ _ _ _ _ _ _ _ _ _ _ _ _ _ _ _ _ _ _ _ _ _ HB2 HL
end Go.Proofs.Ytlcpplnajaldgaa
