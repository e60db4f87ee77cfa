/- Part 11 of the words that the laws share: RTagD, PolSpec, SealSpec, PSame. No condition of its own: each theorem says its own. -/
import Derived.Test.YtmoffodmbbkolaaDoorPart2
import Derived.Test.YtmoffodmbbkolaaDoorPart5
import Derived.Test.YtmoffodmbbkolaaDoorPart6
import Derived.IntWalk
import Derived.Laws.BitsAllLaws

/- The fifth reference's Tag: the loops that lay the tag. Conditions: ten digits of which none is too great; a key of 32 bytes. -/
namespace Go.Proofs.YtmoffodmbbkolaaDoor
open Go.RowKit

theorem num_digit : ∀ (xs : List UInt8) (i : Nat) (hi : i < xs.length), numB xs / 256 ^ i % 256 = xs[i].toNat := by
  intro xs
  induction xs with
  | nil => intro i hi; simp at hi
  | cons x r ih =>
    intro i hi
    have hx := x.toNat_lt
    cases i with
    | zero => simp only [numB, Nat.pow_zero, Nat.div_one, List.getElem_cons_zero]; omega
    | succ i =>
      rw [List.getElem_cons_succ, ← ih i (by simpa using hi), numB, Nat.pow_succ, Nat.mul_comm (256 ^ i), ← Nat.div_div_eq_div_mul]
      congr 2
      omega
theorem carry_step (N S i : Nat) : (N % 256 ^ (i + 1) + S % 256 ^ (i + 1)) / 256 ^ (i + 1) = ((N % 256 ^ i + S % 256 ^ i) / 256 ^ i + N / 256 ^ i % 256 + S / 256 ^ i % 256) / 256 ∧ (N + S) / 256 ^ i % 256 = ((N % 256 ^ i + S % 256 ^ i) / 256 ^ i + N / 256 ^ i % 256 + S / 256 ^ i % 256) % 256 := by
  have hp : 0 < (256 : Nat) ^ i := Nat.pow_pos (by decide)
  obtain ⟨p, hpp⟩ : ∃ p, p = (256 : Nat) ^ i := ⟨_, rfl⟩
  rw [Nat.pow_succ, ← hpp]
  rw [← hpp] at hp
  constructor
  · rw [Nat.mod_mul, Nat.mod_mul, ← Nat.div_div_eq_div_mul]
    have e : N % p + p * (N / p % 256) + (S % p + p * (S / p % 256)) = (N % p + S % p) + p * (N / p % 256 + S / p % 256) := by rw [Nat.mul_add]; omega
    rw [e, Nat.add_mul_div_left _ _ hp, Nat.add_assoc]
  · have e : N + S = (N % p + S % p) + p * (N / p + S / p) := by
      have h1 := Nat.mod_add_div N p
      have h2 := Nat.mod_add_div S p
      rw [Nat.mul_add]
      omega
    rw [e, Nat.add_mul_div_left _ _ hp]
    obtain ⟨x, hx⟩ : ∃ x, x = N / p := ⟨_, rfl⟩
    obtain ⟨y, hy⟩ : ∃ y, y = S / p := ⟨_, rfl⟩
    obtain ⟨z, hz⟩ : ∃ z, z = (N % p + S % p) / p := ⟨_, rfl⟩
    rw [← hx, ← hy, ← hz]
    omega
theorem carry_small (N S i : Nat) : (N % 256 ^ i + S % 256 ^ i) / 256 ^ i ≤ 1 := by
  have hp : 0 < (256 : Nat) ^ i := Nat.pow_pos (by decide)
  have h1 := Nat.mod_lt N hp
  have h2 := Nat.mod_lt S hp
  have h3 : (N % 256 ^ i + S % 256 ^ i) / 256 ^ i < 2 := by rw [Nat.div_lt_iff_lt_mul hp]; omega
  omega
theorem leB_mod (k n : Nat) : leB k (n % 256 ^ k) = leB k n := by
  induction k generalizing n with
  | zero => rfl
  | succ k ih =>
    rw [leB, leB, Nat.pow_succ, Nat.mul_comm (256 ^ k) 256, Nat.mod_mul_right_mod, Nat.mod_mul_right_div_self, ih]
def OuiRel (w : World) (M : Nat) (nv v : Value) (W : World) : Prop := ∃ (k m : Nat), v = .int .i64 (k : Int) ∧ k ≤ 8 ∧ nv = .int .u64 ((M % 2 ^ k : Nat) : Int) ∧ W = w.drewN m
noncomputable def body_oui : Code := (((Tryd.f24.body.map loopsOf).getD [])[6]?).getD .skip
set_option maxRecDepth 100000 in
set_option maxHeartbeats 2000000 in
theorem oui_loop (c0 c1 c2 c3 c4 c5 c6 c7 c8 c10 c11 c12 c13 c14 c15 c16 c17 c18 c19 c23 c24 c25 c26 c27 c28 c29 c30 c31 c32 c33 c34 c35 c36 c37 c38 c39 c40 c41 c42 c43 c44 c45 c46 c47 c48 c49 c50 c51 c52 c53 c54 c55 c56 c57 c58 c59 c60 c61 c62 c63 c64 c65 c66 c67 c68 c69 c70 c71 c72 c73 c74 c75 c76 c77 c78 c79 c80 c81 c82 c83 c84 c85 c86 c87 c88 c89 c90 c91 c92 c93 c94 c95 c96 c97 c98 c99 c100 c101 c102 c103 c104 c105 c106 c107 c108 c109 c110 c111 c112 c113 c114 c115 c116 c117 c118 c119 c120 c121 c122 c123 c124 c125 c126 c127 c128 c129 c130 c131 c132 c133 c134 c135 c136 c137 c138 c139 c140 c141 c142 c143 c144 c145 c146 c147 c148 c149 c150 c151 c152 c153 c154 c155 c156 c157 c158 c159 c160 c161 c162 c163 c164 c165 c166 c167 c168 c169 c170 c171 c172 c173 c174 c175 c176 c177 c178 c179 c180 c181 c182 c183 c184 c185 c186 c187 c188 c189 c190 : Value) (H ch i : Nat) (hs : List Nat) (w : World) (hi : i < 16) (hl : Hid (hs.length = 10)) (hm : Hid (∀ x ∈ hs, x < 8192)) (hh : Hid (∀ i, i < 10 → w.cell? ⟨H, i, none⟩ = some (.int .u64 ((hs.getD i 0 : Nat) : Int)))) {Q : Exit → Act → World → Prop}
    (HQ : Hid (∀ (u22 u23 u151 u152 u153 u154 u155 u156 u157 u158 u159 u160 u161 u162 u163 u164 u165 u166 u167 u168 u169 u170 u171 u172 u173 : Value) (m : Nat), Q (.exit 12) ⟨List.toArray (c0 :: c1 :: c2 :: c3 :: c4 :: c5 :: c6 :: c7 :: c8 :: (.slice (some ⟨H, 0, none⟩) 10 ch) :: c10 :: c11 :: c12 :: c13 :: c14 :: c15 :: c16 :: c17 :: c18 :: c19 :: (.int .i64 (i : Int)) :: (.int .u64 ((dv hs / 256 ^ i % 256 : Nat) : Int)) :: u22 :: u23 :: c24 :: c25 :: c26 :: c27 :: c28 :: c29 :: c30 :: c31 :: c32 :: c33 :: c34 :: c35 :: c36 :: c37 :: c38 :: c39 :: c40 :: c41 :: c42 :: c43 :: c44 :: c45 :: c46 :: c47 :: c48 :: c49 :: c50 :: c51 :: c52 :: c53 :: c54 :: c55 :: c56 :: c57 :: c58 :: c59 :: c60 :: c61 :: c62 :: c63 :: c64 :: c65 :: c66 :: c67 :: c68 :: c69 :: c70 :: c71 :: c72 :: c73 :: c74 :: c75 :: c76 :: c77 :: c78 :: c79 :: c80 :: c81 :: c82 :: c83 :: c84 :: c85 :: c86 :: c87 :: c88 :: c89 :: c90 :: c91 :: c92 :: c93 :: c94 :: c95 :: c96 :: c97 :: c98 :: c99 :: c100 :: c101 :: c102 :: c103 :: c104 :: c105 :: c106 :: c107 :: c108 :: c109 :: c110 :: c111 :: c112 :: c113 :: c114 :: c115 :: c116 :: c117 :: c118 :: c119 :: c120 :: c121 :: c122 :: c123 :: c124 :: c125 :: c126 :: c127 :: c128 :: c129 :: c130 :: c131 :: c132 :: c133 :: c134 :: c135 :: c136 :: c137 :: c138 :: c139 :: c140 :: c141 :: c142 :: c143 :: c144 :: c145 :: c146 :: c147 :: c148 :: c149 :: c150 :: u151 :: u152 :: u153 :: u154 :: u155 :: u156 :: u157 :: u158 :: u159 :: u160 :: u161 :: u162 :: u163 :: u164 :: u165 :: u166 :: u167 :: u168 :: u169 :: u170 :: u171 :: u172 :: u173 :: c174 :: c175 :: c176 :: c177 :: c178 :: c179 :: c180 :: c181 :: c182 :: c183 :: c184 :: c185 :: c186 :: c187 :: c188 :: c189 :: c190 :: []), []⟩ (w.drewN m))) :
    (Code.loop body_oui).wp Tryd.prog Q ⟨List.toArray (c0 :: c1 :: c2 :: c3 :: c4 :: c5 :: c6 :: c7 :: c8 :: (.slice (some ⟨H, 0, none⟩) 10 ch) :: c10 :: c11 :: c12 :: c13 :: c14 :: c15 :: c16 :: c17 :: c18 :: c19 :: (.int .i64 (i : Int)) :: (.int .u64 0) :: (.int .i64 0) :: c23 :: c24 :: c25 :: c26 :: c27 :: c28 :: c29 :: c30 :: c31 :: c32 :: c33 :: c34 :: c35 :: c36 :: c37 :: c38 :: c39 :: c40 :: c41 :: c42 :: c43 :: c44 :: c45 :: c46 :: c47 :: c48 :: c49 :: c50 :: c51 :: c52 :: c53 :: c54 :: c55 :: c56 :: c57 :: c58 :: c59 :: c60 :: c61 :: c62 :: c63 :: c64 :: c65 :: c66 :: c67 :: c68 :: c69 :: c70 :: c71 :: c72 :: c73 :: c74 :: c75 :: c76 :: c77 :: c78 :: c79 :: c80 :: c81 :: c82 :: c83 :: c84 :: c85 :: c86 :: c87 :: c88 :: c89 :: c90 :: c91 :: c92 :: c93 :: c94 :: c95 :: c96 :: c97 :: c98 :: c99 :: c100 :: c101 :: c102 :: c103 :: c104 :: c105 :: c106 :: c107 :: c108 :: c109 :: c110 :: c111 :: c112 :: c113 :: c114 :: c115 :: c116 :: c117 :: c118 :: c119 :: c120 :: c121 :: c122 :: c123 :: c124 :: c125 :: c126 :: c127 :: c128 :: c129 :: c130 :: c131 :: c132 :: c133 :: c134 :: c135 :: c136 :: c137 :: c138 :: c139 :: c140 :: c141 :: c142 :: c143 :: c144 :: c145 :: c146 :: c147 :: c148 :: c149 :: c150 :: c151 :: c152 :: c153 :: c154 :: c155 :: c156 :: c157 :: c158 :: c159 :: c160 :: c161 :: c162 :: c163 :: c164 :: c165 :: c166 :: c167 :: c168 :: c169 :: c170 :: c171 :: c172 :: c173 :: c174 :: c175 :: c176 :: c177 :: c178 :: c179 :: c180 :: c181 :: c182 :: c183 :: c184 :: c185 :: c186 :: c187 :: c188 :: c189 :: c190 :: []), []⟩ w := by
  obtain ⟨M, hM⟩ : ∃ M, M = dv hs / 256 ^ i := ⟨_, rfl⟩
  rw [← hM] at HQ
  have iI : (i : Int) < 16 := by omega
  unfold body_oui
  conv => arg 2; arg 1; whnf
  go_loopw [21, 22] (fun nv v wx => OuiRel w M nv v wx) (fun _ v _ => 8 - (intOf v).toNat)
  case atStart => exact ⟨0, 0, rfl, by omega, congrArg (Value.int .u64) (by simp [Nat.mod_one]), rfl⟩
  case round =>
    obtain ⟨k, m0, rfl, hk, rfl, rfl⟩ := hrel
    by_cases hlt : k < 8
    · have kI : (k : Int) < 8 := by omega
      obtain ⟨t, ht⟩ : ∃ t, t = 8 * i + k := ⟨_, rfl⟩
      obtain ⟨q, hq⟩ : ∃ q, q = t / 13 := ⟨_, rfl⟩
      obtain ⟨r, hr⟩ : ∃ r, r = t % 13 := ⟨_, rfl⟩
      have q10 : q < 10 := by omega
      have ce := hh.out q q10
      obtain ⟨e, he⟩ : ∃ e, e = hs.getD q 0 := ⟨_, rfl⟩
      rw [← he] at ce
      have el : e < 8192 := by
        rw [he, List.getD, List.getElem?_eq_getElem (by rw [hl.out]; exact q10)]
        exact hm.out _ (List.getElem_mem _)
      have hbit : e / 2 ^ r % 2 = M / 2 ^ k % 2 := by
        have h1 := bit_at (dv hs) t
        rw [dv_digit hs hm.out, ← hq, ← hr, ← he] at h1
        rw [h1, hM, ht, Nat.div_div_eq_div_mul, show (256 : Nat) = 2 ^ 8 from rfl, ← Nat.pow_mul, ← Nat.pow_add]
      have HL := Lib.hid (low_succ M k)
      obtain ⟨n, hn⟩ : ∃ n, n = M % 2 ^ k := ⟨_, rfl⟩
      have nl : n < 256 := by
        have h1 := Nat.mod_lt M (Nat.two_pow_pos k)
        have h2 := Nat.pow_le_pow_right (n := 2) (by decide) (show k ≤ 8 by omega)
        omega
      obtain ⟨y, hy⟩ : ∃ y, y = M / 2 ^ k % 2 := ⟨_, rfl⟩
      have yl : y < 2 := by rw [hy]; exact Nat.mod_lt _ (by decide)
      rw [← hn, ← hy] at HL
      rw [← hn]
      obtain ⟨pr, hpr⟩ : ∃ p, p = 2 ^ r := ⟨_, rfl⟩
      obtain ⟨pk, hpk⟩ : ∃ p, p = 2 ^ k := ⟨_, rfl⟩
      have pr0 : 0 < pr := by rw [hpr]; exact Nat.two_pow_pos _
      have prl : pr ≤ 4096 := by
        have := Nat.pow_le_pow_right (n := 2) (by decide) (show r ≤ 12 by omega)
        omega
      have pkl : pk ≤ 128 := by
        have := Nat.pow_le_pow_right (n := 2) (by decide) (show k ≤ 7 by omega)
        omega
      have tI : (t : Int) = 8 * (i : Int) + (k : Int) := by omega
      have a0 : 8 * (i : Int) + (k : Int) = (t : Int) := tI.symm
      have tl : (t : Int) ≤ 127 := by omega
      have a1 : (t : Int).tdiv 13 = (q : Int) := by rw [Int.tdiv_eq_ediv_of_nonneg (by omega)]; omega
      have a1' : (t : Int) / 13 = (q : Int) := by omega
      have a3 : (t : Int).tmod 13 = (r : Int) := by rw [Int.tmod_eq_emod_of_nonneg (by omega)]; omega
      have a3' : (t : Int) % 13 = (r : Int) := by omega
      have a5 : (2 : Int) ^ r = (pr : Int) := by rw [hpr]; simp
      have a5' : (2 : Int) ^ k = (pk : Int) := by rw [hpk]; simp
      obtain ⟨e0, he0⟩ : ∃ x, x = e / pr := ⟨_, rfl⟩
      have e0l : e0 ≤ 8191 := by have := Nat.div_le_self e pr; omega
      have d1 : (e : Int).tdiv (pr : Int) = (e0 : Int) := by rw [Int.tdiv_eq_ediv_of_nonneg (by omega), he0]; simp
      have d2 : (e : Int) / (pr : Int) = (e0 : Int) := by rw [he0]; simp
      have hyy : y = e0 % 2 := by rw [hy, ← hbit, he0, hpr]
      have c1 : (e0 : Int).tmod 2 = (y : Int) := by rw [Int.tmod_eq_emod_of_nonneg (by omega)]; omega
      have c2 : (e0 : Int) % 2 = (y : Int) := by omega
      obtain ⟨m, hm2⟩ : ∃ m, m = y * pk := ⟨_, rfl⟩
      have ml : m ≤ 128 := by
        rw [hm2]
        have : y = 0 ∨ y = 1 := by omega
        rcases this with h | h <;> rw [h] <;> omega
      have c3 : (y : Int) * (pk : Int) = (m : Int) := by rw [hm2]; simp
      have p3 : ¬ (pr : Int) = 0 := by omega
      have p4 : ((pr : Int) == 0) = false := by rw [beq_eq_false_iff_ne]; omega
      have qI : (q : Int) < 10 := by omega
      have rI : (r : Int) < 13 := by omega
      have HK : Hid (n + m = M % 2 ^ (k + 1)) := by show _ = _; rw [HL.out, hm2, hpk, Nat.mul_comm y]
      have HT := Lib.hid ht
      have w1 : IntKind.i64.wrap (q : Int) = (q : Int) := IntWalk.i64_in _ (by clear a0 a1 a1' a3 a3' a5 a5' d1 d2 c1 c2 c3; omega)
      have w2 : IntKind.i64.wrap (r : Int) = (r : Int) := IntWalk.i64_in _ (by clear a0 a1 a1' a3 a3' a5 a5' d1 d2 c1 c2 c3 w1; omega)
      have w3 : IntKind.u64.wrap (pr : Int) = (pr : Int) := IntWalk.u64_in _ (by clear a0 a1 a1' a3 a3' a5 a5' d1 d2 c1 c2 c3 w1 w2; omega)
      have w4 : IntKind.u64.wrap (pk : Int) = (pk : Int) := IntWalk.u64_in _ (by clear a0 a1 a1' a3 a3' a5 a5' d1 d2 c1 c2 c3 w1 w2 w3; omega)
      have w5 : IntKind.u64.wrap (e0 : Int) = (e0 : Int) := IntWalk.u64_in _ (by clear a0 a1 a1' a3 a3' a5 a5' d1 d2 c1 c2 c3 w1 w2 w3 w4; omega)
      have w6 : IntKind.u64.wrap (y : Int) = (y : Int) := IntWalk.u64_in _ (by clear a0 a1 a1' a3 a3' a5 a5' d1 d2 c1 c2 c3 w1 w2 w3 w4 w5; omega)
      have w7 : IntKind.u64.wrap (m : Int) = (m : Int) := IntWalk.u64_in _ (by clear a0 a1 a1' a3 a3' a5 a5' d1 d2 c1 c2 c3 w1 w2 w3 w4 w5 w6; omega)
      have w8 : IntKind.u64.wrap ((n : Int) + (m : Int)) = (n : Int) + (m : Int) := IntWalk.u64_in _ (by clear a0 a1 a1' a3 a3' a5 a5' d1 d2 c1 c2 c3 w1 w2 w3 w4 w5 w6 w7; omega)
      have w9 : IntKind.i64.wrap (t : Int) = (t : Int) := IntWalk.i64_in _ (by clear a0 a1 a1' a3 a3' a5 a5' d1 d2 c1 c2 c3 w1 w2 w3 w4 w5 w6 w7 w8; omega)
      clear tI ht hq hr he hbit hn hy hpr hpk he0 hyy hm2 q10 hk
      go_wp2_with (fail)
      go_quiet (fail)
      go_wp2_with (fail)
      clear a0 a1 a1' a3 a3' a5 a5' d1 d2 c1 c2 c3 w1 w2 w3 w4 w5 w6 w7 w8 w9
      go_roundw
      case rel => exact ⟨k + 1, _, by go_num, by omega, by rw [← HK.out]; go_num, rfl⟩
      case measure => simp [intOf]; omega
    · obtain rfl : k = 8 := by omega
      go_wp2_with (fail)
      exact HQ.out _ _ _ _ _ _ _ _ _ _ _ _ _ _ _ _ _ _ _ _ _ _ _ _ _ m0
/-- The first i bytes of a number, and zeros in the place of the rest, to 16. -/
def row16 (T i : Nat) : List UInt8 := leB i T ++ List.replicate (16 - i) 0
theorem row16_set {T i : Nat} (h : i < 16) : (row16 T i).set i (UInt8.ofNat (T / 256 ^ i % 256)) = row16 T (i + 1) := by
  unfold row16
  rw [List.set_append_right _ _ (by rw [leB_length]; exact Nat.le_refl _), leB_length, Nat.sub_self, show 16 - i = (16 - (i + 1)) + 1 by omega, List.replicate_succ, List.set_cons_zero, leB_snoc, List.append_assoc]
  rfl
theorem row16_length {T i : Nat} (h : i ≤ 16) : (row16 T i).length = 16 := by unfold row16; rw [List.length_append, leB_length, List.length_replicate]; omega
def OuoRel (w : World) (OB : Nat) (T : TypeId) (N S : Nat) (cv v : Value) (W : World) : Prop := ∃ i : Nat, v = .int .i64 (i : Int) ∧ i ≤ 16 ∧ cv = .int .u64 (((N % 256 ^ i + S % 256 ^ i) / 256 ^ i : Nat) : Int) ∧ Blk W OB T ((row16 (N + S) i).map bv) ∧ Sole w W OB
noncomputable def body_ouo : Code := (((Tryd.f24.body.map loopsOf).getD [])[5]?).getD .skip
set_option maxRecDepth 100000 in
set_option maxHeartbeats 2000000 in
theorem ouo_loop (c0 c1 c3 c4 c5 c6 c7 c8 c10 c11 c12 c13 c14 c15 c16 c17 c21 c22 c23 c24 c25 c26 c27 c28 c29 c30 c31 c32 c33 c34 c35 c36 c37 c38 c39 c40 c41 c42 c43 c44 c45 c46 c47 c48 c49 c50 c51 c52 c53 c54 c55 c56 c57 c58 c59 c60 c61 c62 c63 c64 c65 c66 c67 c68 c69 c70 c71 c72 c73 c74 c75 c76 c77 c78 c79 c80 c81 c82 c83 c84 c85 c86 c87 c88 c89 c90 c91 c92 c93 c94 c95 c96 c97 c98 c99 c100 c101 c102 c103 c104 c105 c106 c107 c108 c109 c110 c111 c112 c113 c114 c115 c116 c117 c118 c119 c120 c121 c122 c123 c124 c125 c126 c127 c128 c129 c130 c131 c132 c133 c134 c135 c136 c137 c138 c139 c140 c141 c142 c143 c144 c145 c146 c147 c148 c149 c150 c151 c152 c153 c154 c155 c156 c157 c158 c159 c160 c161 c162 c163 c164 c165 c166 c167 c168 c169 c170 c171 c172 c173 c174 c175 c176 c177 c178 c179 c180 c181 c182 c183 c184 c185 c186 c187 c188 c189 c190 : Value) (H ch KB OB : Nat) (TK TO : TypeId) (hs : List Nat) (k : List UInt8) (w : World) (hl : Hid (hs.length = 10)) (hm : Hid (∀ x ∈ hs, x < 8192)) (hkl : Hid (k.length = 32)) (hh : Hid (∀ i, i < 10 → w.cell? ⟨H, i, none⟩ = some (.int .u64 ((hs.getD i 0 : Nat) : Int)))) (hkb : Hid (Blk w KB TK (k.map bv))) (hne1 : H ≠ OB) (hne2 : KB ≠ OB)
    (h0 : Hid (Blk w OB TO ((row16 (dv hs + sN k) 0).map bv))) {Q : Exit → Act → World → Prop}
    (HQ : Hid (∀ (u19 u20 u21 u22 u23 u147 u148 u149 u150 u151 u152 u153 u154 u155 u156 u157 u158 u159 u160 u161 u162 u163 u164 u165 u166 u167 u168 u169 u170 u171 u172 u173 u174 u175 u176 u177 u178 u179 u180 u181 u182 u183 u184 u185 u186 u187 u188 u189 : Value) (wx : World), Hid (Blk wx OB TO ((leB 16 (dv hs + sN k)).map bv)) → Hid (Sole w wx OB) → Q (.exit 10) ⟨List.toArray (c0 :: c1 :: (.pointer (some ⟨KB, 0, none⟩)) :: c3 :: c4 :: c5 :: c6 :: c7 :: c8 :: (.slice (some ⟨H, 0, none⟩) 10 ch) :: c10 :: c11 :: c12 :: c13 :: c14 :: c15 :: c16 :: c17 :: (.pointer (some ⟨OB, 0, none⟩)) :: u19 :: u20 :: u21 :: u22 :: u23 :: c24 :: c25 :: c26 :: c27 :: c28 :: c29 :: c30 :: c31 :: c32 :: c33 :: c34 :: c35 :: c36 :: c37 :: c38 :: c39 :: c40 :: c41 :: c42 :: c43 :: c44 :: c45 :: c46 :: c47 :: c48 :: c49 :: c50 :: c51 :: c52 :: c53 :: c54 :: c55 :: c56 :: c57 :: c58 :: c59 :: c60 :: c61 :: c62 :: c63 :: c64 :: c65 :: c66 :: c67 :: c68 :: c69 :: c70 :: c71 :: c72 :: c73 :: c74 :: c75 :: c76 :: c77 :: c78 :: c79 :: c80 :: c81 :: c82 :: c83 :: c84 :: c85 :: c86 :: c87 :: c88 :: c89 :: c90 :: c91 :: c92 :: c93 :: c94 :: c95 :: c96 :: c97 :: c98 :: c99 :: c100 :: c101 :: c102 :: c103 :: c104 :: c105 :: c106 :: c107 :: c108 :: c109 :: c110 :: c111 :: c112 :: c113 :: c114 :: c115 :: c116 :: c117 :: c118 :: c119 :: c120 :: c121 :: c122 :: c123 :: c124 :: c125 :: c126 :: c127 :: c128 :: c129 :: c130 :: c131 :: c132 :: c133 :: c134 :: c135 :: c136 :: c137 :: c138 :: c139 :: c140 :: c141 :: c142 :: c143 :: c144 :: c145 :: c146 :: u147 :: u148 :: u149 :: u150 :: u151 :: u152 :: u153 :: u154 :: u155 :: u156 :: u157 :: u158 :: u159 :: u160 :: u161 :: u162 :: u163 :: u164 :: u165 :: u166 :: u167 :: u168 :: u169 :: u170 :: u171 :: u172 :: u173 :: u174 :: u175 :: u176 :: u177 :: u178 :: u179 :: u180 :: u181 :: u182 :: u183 :: u184 :: u185 :: u186 :: u187 :: u188 :: u189 :: c190 :: []), []⟩ wx)) :
    (Code.loop body_ouo).wp Tryd.prog Q ⟨List.toArray (c0 :: c1 :: (.pointer (some ⟨KB, 0, none⟩)) :: c3 :: c4 :: c5 :: c6 :: c7 :: c8 :: (.slice (some ⟨H, 0, none⟩) 10 ch) :: c10 :: c11 :: c12 :: c13 :: c14 :: c15 :: c16 :: c17 :: (.pointer (some ⟨OB, 0, none⟩)) :: (.int .u64 0) :: (.int .i64 0) :: c21 :: c22 :: c23 :: c24 :: c25 :: c26 :: c27 :: c28 :: c29 :: c30 :: c31 :: c32 :: c33 :: c34 :: c35 :: c36 :: c37 :: c38 :: c39 :: c40 :: c41 :: c42 :: c43 :: c44 :: c45 :: c46 :: c47 :: c48 :: c49 :: c50 :: c51 :: c52 :: c53 :: c54 :: c55 :: c56 :: c57 :: c58 :: c59 :: c60 :: c61 :: c62 :: c63 :: c64 :: c65 :: c66 :: c67 :: c68 :: c69 :: c70 :: c71 :: c72 :: c73 :: c74 :: c75 :: c76 :: c77 :: c78 :: c79 :: c80 :: c81 :: c82 :: c83 :: c84 :: c85 :: c86 :: c87 :: c88 :: c89 :: c90 :: c91 :: c92 :: c93 :: c94 :: c95 :: c96 :: c97 :: c98 :: c99 :: c100 :: c101 :: c102 :: c103 :: c104 :: c105 :: c106 :: c107 :: c108 :: c109 :: c110 :: c111 :: c112 :: c113 :: c114 :: c115 :: c116 :: c117 :: c118 :: c119 :: c120 :: c121 :: c122 :: c123 :: c124 :: c125 :: c126 :: c127 :: c128 :: c129 :: c130 :: c131 :: c132 :: c133 :: c134 :: c135 :: c136 :: c137 :: c138 :: c139 :: c140 :: c141 :: c142 :: c143 :: c144 :: c145 :: c146 :: c147 :: c148 :: c149 :: c150 :: c151 :: c152 :: c153 :: c154 :: c155 :: c156 :: c157 :: c158 :: c159 :: c160 :: c161 :: c162 :: c163 :: c164 :: c165 :: c166 :: c167 :: c168 :: c169 :: c170 :: c171 :: c172 :: c173 :: c174 :: c175 :: c176 :: c177 :: c178 :: c179 :: c180 :: c181 :: c182 :: c183 :: c184 :: c185 :: c186 :: c187 :: c188 :: c189 :: c190 :: []), []⟩ w := by
  obtain ⟨N, hN⟩ : ∃ N, N = dv hs := ⟨_, rfl⟩
  obtain ⟨S, hS⟩ : ∃ S, S = sN k := ⟨_, rfl⟩
  have HNN := Lib.hid hN
  have HSS := Lib.hid hS
  rw [← hN, ← hS] at HQ h0
  clear hN hS
  unfold body_ouo
  conv => arg 2; arg 1; whnf
  go_loopw [19, 20] (fun cv v wx => OuoRel w OB TO N S cv v wx) (fun _ v _ => 16 - (intOf v).toNat)
  case atStart => exact ⟨0, rfl, by omega, congrArg (Value.int .u64) (by simp [Nat.mod_one]), h0.out, Sole.refl _ _⟩
  case round =>
    obtain ⟨i, rfl, hi, rfl, hblk, so⟩ := hrel
    have HB := Lib.hid hblk
    have HL := Lib.hid so
    by_cases hlt : i < 16
    · have hI : (i : Int) < 16 := by omega
      have HH := Lib.hid (fun j (hj : j < 10) => (so.cell (p := ⟨H, j, none⟩) hne1).trans (hh.out j hj))
      obtain ⟨c, hc⟩ : ∃ c, c = (N % 256 ^ i + S % 256 ^ i) / 256 ^ i := ⟨_, rfl⟩
      have cl : (c : Int) ≤ 1 := by have := carry_small N S i; omega
      have HCS := Lib.hid (carry_step N S i)
      obtain ⟨n, hn⟩ : ∃ n, n = N / 256 ^ i % 256 := ⟨_, rfl⟩
      have nl : n < 256 := by rw [hn]; exact Nat.mod_lt _ (by decide)
      obtain ⟨s, hs2⟩ : ∃ s, s = k[16 + i]'(by rw [hkl.out]; omega) := ⟨_, rfl⟩
      have hsd : S / 256 ^ i % 256 = s.toNat := by
        have h := num_digit (k.drop 16) i (by rw [List.length_drop, hkl.out]; omega)
        rw [HSS.out]
        unfold sN
        rw [h, List.getElem_drop, hs2]
      have sl : (s.toNat : Int) ≤ 255 := by have := s.toNat_lt; omega
      have cs : wr.cell? ⟨KB, 16 + i, none⟩ = some (.int .u8 (s.toNat : Int)) := by
        rw [(so.blk hkb.out hne2).cell, List.getElem?_map, List.getElem?_eq_getElem (by rw [hkl.out]; omega), ← hs2]
        rfl
      rw [hsd, ← hc, ← hn] at HCS
      have HNV : Hid (n = dv hs / 256 ^ i % 256) := Lib.hid (by rw [hn, HNN.out])
      rw [← hc]
      have nI : (n : Int) ≤ 255 := by omega
      have HNL := Lib.hid nl
      clear hblk so hi hc hn hs2 hsd nl
      go_wp2_with (fail)
      refine oui_loop _ _ _ _ _ _ _ _ _ _ _ _ _ _ _ _ _ _ _ _ _ _ _ _ _ _ _ _ _ _ _ _ _ _ _ _ _ _ _ _ _ _ _ _ _ _ _ _ _ _ _ _ _ _ _ _ _ _ _ _ _ _ _ _ _ _ _ _ _ _ _ _ _ _ _ _ _ _ _ _ _ _ _ _ _ _ _ _ _ _ _ _ _ _ _ _ _ _ _ _ _ _ _ _ _ _ _ _ _ _ _ _ _ _ _ _ _ _ _ _ _ _ _ _ _ _ _ _ _ _ _ _ _ _ _ _ _ _ _ _ _ _ _ _ _ _ _ _ _ _ _ _ _ _ _ _ _ _ _ _ _ _ _ _ _ _ _ _ _ _ _ _ _ _ _ _ _ _ _ _ _ _ _ _ _ _ _ H ch i hs wr hlt hl hm HH (Lib.hid ?_)
      intro u22 u23 u151 u152 u153 u154 u155 u156 u157 u158 u159 u160 u161 u162 u163 u164 u165 u166 u167 u168 u169 u170 u171 u172 u173 m
      rw [← HNV.out]
      obtain ⟨wa, hwa⟩ : ∃ W : World, W = wr.drewN m := ⟨_, rfl⟩
      have HB2 : Hid (Blk wa OB TO ((row16 (N + S) i).map bv)) := Lib.hid (hwa ▸ HB.out)
      have HL2 : Hid (Sole w wa OB) := Lib.hid (by rw [hwa]; exact ⟨below_drewN HL.out.below m, HL.out.size, HL.out.other⟩)
      have cs2 : wa.cell? ⟨KB, 16 + i, none⟩ = some (.int .u8 (s.toNat : Int)) := hwa ▸ cs
      have f0 : wa.frozen? ⟨OB, i, none⟩ = false := HB2.out.free _
      obtain ⟨u, hu⟩ : ∃ u, wa.cell? ⟨OB, i, none⟩ = some u := by
        refine ⟨((row16 (N + S) i).map bv)[i]'?_, ?_⟩
        · rw [List.length_map, row16_length (by omega)]; exact hlt
        · rw [HB2.out.cell]; exact List.getElem?_eq_getElem _
      have k1 : (16 + (i : Int)).toNat = 16 + i := by omega
      have k2 : 16 + (i : Int) < 32 := by omega
      rw [← hwa]
      clear hwa cs HB HL
      go_wp2_with (fail)
      go_roundw
      case rel =>
        have h := HB2.out.set i (bv (UInt8.ofNat ((N + S) / 256 ^ i % 256)))
        rw [← List.map_set, row16_set hlt] at h
        have e1 : bv (UInt8.ofNat ((N + S) / 256 ^ i % 256)) = Value.int .u8 (((c : Int) + (n : Int) + (s.toNat : Int)) % 256) := by
          unfold bv
          rw [UInt8.toNat_ofNat', Nat.mod_mod_of_dvd _ (by decide), HCS.out.2]
          exact congrArg (Value.int .u8) (by omega)
        rw [e1] at h
        refine ⟨i + 1, by go_num, by omega, ?_, h, HL2.out.trans (Sole.setCell _ OB i _)⟩
        rw [HCS.out.1]
        exact congrArg (Value.int .u64) (by omega)
      case measure => simp [intOf]; omega
    · obtain rfl : i = 16 := by omega
      have HB2 : Hid (Blk wr OB TO ((leB 16 (N + S)).map bv)) := Lib.hid (by simpa [row16] using hblk)
      clear hblk so
      go_wp2_with (fail)
      exact HQ.out _ _ _ _ _ _ _ _ _ _ _ _ _ _ _ _ _ _ _ _ _ _ _ _ _ _ _ _ _ _ _ _ _ _ _ _ _ _ _ _ _ _ _ _ _ _ _ _ _ HB2 HL
end Go.Proofs.YtmoffodmbbkolaaDoor

/- What the fifth layer's laws say of the tag, as plain words: no program in sight. Condition: a key of 32 bytes. -/
namespace Go.Proofs.YtmoffodmbbkolaaDoor
open Go.RowKit

theorem leB_numB : ∀ xs : List UInt8, leB xs.length (numB xs) = xs := by
  intro xs
  induction xs with
  | nil => rfl
  | cons x r ih =>
    have hx := x.toNat_lt
    rw [List.length_cons, leB, numB]
    have e1 : (x.toNat + 256 * numB r) % 256 = x.toNat := by omega
    have e2 : (x.toNat + 256 * numB r) / 256 = numB r := by omega
    rw [e1, e2, ih, UInt8.ofNat_toNat]
theorem numB_leBm (k n : Nat) : numB (leB k n) = n % 256 ^ k := by
  induction k generalizing n with
  | zero => rw [Nat.pow_zero, Nat.mod_one]; rfl
  | succ k ih =>
    rw [leB, numB, ih, Nat.pow_succ', Nat.mod_mul, UInt8.toNat_ofNat']
    omega
theorem leB_s {k : List UInt8} (h : k.length = 32) : leB 16 (sN k) = k.drop 16 := by
  have h1 : (k.drop 16).length = 16 := by rw [List.length_drop]; omega
  have h2 := leB_numB (k.drop 16)
  rw [h1] at h2
  exact h2
theorem tagB_eq (k m : List UInt8) : tagB k m = leB 16 (polyN (rN k) m (blksN m) + sN k) := by
  unfold tagB tagN
  exact leB_mod 16 _
/-- By a key whose first half is 0 each tag is the second half. -/
theorem tag_zero {k : List UInt8} (m : List UInt8) (h : k.length = 32) (hz : k.take 16 = List.replicate 16 0) : tagB k m = k.drop 16 := by
  have h1 : rN k = 0 := by
    unfold rN rB
    rw [hz]
    decide
  rw [tagB_eq, h1, polyN_zero, Nat.zero_add, leB_s h]
/-- The tag of nothing is the second half. -/
theorem tag_nil {k : List UInt8} (h : k.length = 32) : tagB k [] = k.drop 16 := by
  rw [tagB_eq]
  show leB 16 (0 + sN k) = _
  rw [Nat.zero_add, leB_s h]
/-- Keys with one clamped first half and one second half give one tag. -/
theorem tag_same {k o : List UInt8} (m : List UInt8) (h1 : rB k = rB o) (h2 : k.drop 16 = o.drop 16) : tagB k m = tagB o m := by
  rw [tagB_eq, tagB_eq]
  unfold rN sN
  rw [h1, h2]
theorem bits_a (c b : Nat) : ((c &&& 15) ||| (b &&& 240)) &&& 15 = c &&& 15 := by
  apply Nat.eq_of_testBit_eq
  intro i
  have h : ((240 : Nat).testBit i && (15 : Nat).testBit i) = false := by
    rw [← Nat.testBit_and]
    exact Nat.zero_testBit i
  rw [Nat.testBit_and, Nat.testBit_or, Nat.testBit_and, Nat.testBit_and]
  revert h
  generalize (240 : Nat).testBit i = x
  generalize (15 : Nat).testBit i = y
  generalize c.testBit i = z
  generalize b.testBit i = u
  revert x y z u
  decide
theorem bits_b {c : Nat} (b : Nat) (hc : c < 256) : ((c &&& 252) ||| (b &&& 3)) >>> 2 = c >>> 2 := by
  apply Nat.eq_of_testBit_eq
  intro i
  rw [Nat.testBit_shiftRight, Nat.testBit_shiftRight, Nat.testBit_or, Nat.testBit_and, Nat.testBit_and]
  have h3 : (3 : Nat).testBit (2 + i) = false := Nat.testBit_lt_two_pow (Nat.lt_of_lt_of_le (show 3 < 2 ^ 2 by decide) (Nat.pow_le_pow_right (by decide) (by omega)))
  rw [h3, Bool.and_false, Bool.or_false]
  rcases Nat.lt_or_ge i 6 with hi | hi
  · have h : (252 : Nat).testBit (2 + i) = true := by
      match i, hi with
      | 0, _ => rfl
      | 1, _ => rfl
      | 2, _ => rfl
      | 3, _ => rfl
      | 4, _ => rfl
      | 5, _ => rfl
    rw [h, Bool.and_true]
  · have h : c.testBit (2 + i) = false := Nat.testBit_lt_two_pow (Nat.lt_of_lt_of_le (show c < 2 ^ 8 from hc) (Nat.pow_le_pow_right (by decide) (by omega)))
    rw [h, Bool.false_and]
theorem clamp_a (c b : UInt8) : ((c &&& 15) ||| (b &&& 240)) % 16 = c % 16 := by
  have e : ∀ x : UInt8, (x % 16).toNat = x.toNat &&& 15 := fun x => by
    rw [UInt8.toNat_mod]
    exact (Nat.and_two_pow_sub_one_eq_mod x.toNat 4).symm
  apply UInt8.toNat_inj.1
  rw [e, e, UInt8.toNat_or, UInt8.toNat_and, UInt8.toNat_and]
  exact bits_a _ _
theorem clamp_b (c b : UInt8) : ((c &&& 252) ||| (b &&& 3)) / 4 = c / 4 := by
  have e : ∀ x : UInt8, (x / 4).toNat = x.toNat >>> 2 := fun x => by
    rw [UInt8.toNat_div]
    exact (Nat.shiftRight_eq_div_pow x.toNat 2).symm
  apply UInt8.toNat_inj.1
  rw [e, e, UInt8.toNat_or, UInt8.toNat_and, UInt8.toNat_and]
  exact bits_b _ c.toNat_lt
/-- A number added to the second half is added to the tag. -/
theorem tag_once {k o more : List UInt8} (m : List UInt8) (h1 : o.take 16 = k.take 16) (h2 : o.drop 16 = leB 16 (sN k + numB more)) : tagB o m = leB 16 (numB (tagB k m) + numB more) := by
  have e1 : rN o = rN k := by unfold rN rB; rw [h1]
  have e2 : sN o = (sN k + numB more) % 256 ^ 16 := by unfold sN; rw [h2, numB_leBm]; rfl
  rw [tagB_eq, tagB_eq, e1, e2, numB_leBm, ← leB_mod 16 (_ + numB more), Nat.mod_add_mod, ← leB_mod 16 (_ + _ % _), Nat.add_mod_mod, Nat.add_assoc]
end Go.Proofs.YtmoffodmbbkolaaDoor

/- What is sealed, reckoned: no program in sight, no condition. -/
namespace Go.Proofs.YtmoffodmbbkolaaDoor
open Go.RowKit

/-- How many noughts make n a multiple of 16. -/
def pz (n : Nat) : Nat := (16 - n % 16) % 16
def zs (n : Nat) : List UInt8 := List.replicate (pz n) 0
theorem zs_length (n : Nat) : (zs n).length = pz n := by simp [zs]
theorem pz_lt (n : Nat) : pz n < 16 := Nat.mod_lt _ (by decide)
theorem pz_done {n j : Nat} (hj : j ≤ pz n) (h : (n + j) % 16 = 0) : j = pz n := by unfold pz at *; omega
theorem pz_more {n j : Nat} (hj : j ≤ pz n) (h : (n + j) % 16 ≠ 0) : j < pz n := by unfold pz at *; omega
theorem pz_both (a u : Nat) : pz (a + pz a + u) = pz u := by unfold pz; omega
/-- What the tag is of. -/
def sealM (a u : List UInt8) : List UInt8 := a ++ zs a.length ++ u ++ zs u.length ++ leB 8 a.length ++ leB 8 u.length
theorem sealM_length (a u : List UInt8) : (sealM a u).length ≤ a.length + u.length + 46 := by
  have := pz_lt a.length
  have := pz_lt u.length
  simp only [sealM, List.length_append, zs_length, leB_length]
  omega
def sealT (k n a u : List UInt8) : List UInt8 := tagB ((chaBlock k 0 n).take 32) (sealM a u)
def sealB (k n a p : List UInt8) : List UInt8 := chaXor k n 1 p ++ sealT k n a (chaXor k n 1 p)
theorem sealT_length (k n a u : List UInt8) : (sealT k n a u).length = 16 := tagB_length _ _
theorem sealB_length (k n a p : List UInt8) : (sealB k n a p).length = p.length + 16 := by rw [sealB, List.length_append, chaXor_length, sealT_length]
theorem keyO_length (k n : List UInt8) : ((chaBlock k 0 n).take 32).length = 32 := by rw [List.length_take, chaBlock_length]; rfl
/-- What opening answers: the error, and the bytes. -/
def openE (k n a s : List UInt8) : Nat := if s.length < 16 then 2 else if 4112 < s.length then 3 else if sealT k n a (s.take (s.length - 16)) = s.drop (s.length - 16) then 0 else 5
def openP (k n a s : List UInt8) : List UInt8 := if openE k n a s = 0 then chaXor k n 1 (s.take (s.length - 16)) else []
theorem seal_iff {k n a s : List UInt8} (_ : 16 ≤ s.length) : sealB k n a (chaXor k n 1 (s.take (s.length - 16))) = s ↔ sealT k n a (s.take (s.length - 16)) = s.drop (s.length - 16) := by
  unfold sealB
  rw [chaXor_twice]
  constructor
  · intro e
    have h := congrArg (List.drop (s.length - 16)) e
    rw [List.drop_append_of_le_length (by rw [List.length_take]; omega), List.drop_of_length_le (by rw [List.length_take]; omega), List.nil_append] at h
    exact h
  · intro e
    rw [e, List.take_append_drop]
theorem openE_seal {k n a p : List UInt8} (h : p.length ≤ 4096) : openE k n a (sealB k n a p) = 0 := by
  have hl := sealB_length k n a p
  have e : (sealB k n a p).length - 16 = (chaXor k n 1 p).length := by rw [hl, chaXor_length]; omega
  unfold openE
  rw [if_neg (by omega), if_neg (by omega), e]
  unfold sealB
  rw [List.take_left, List.drop_left, if_pos rfl]
theorem openP_seal {k n a p : List UInt8} (h : p.length ≤ 4096) : openP k n a (sealB k n a p) = p := by
  have hl := sealB_length k n a p
  have e : (sealB k n a p).length - 16 = (chaXor k n 1 p).length := by rw [hl, chaXor_length]; omega
  unfold openP
  rw [if_pos (openE_seal h), e]
  unfold sealB
  rw [List.take_left, chaXor_twice]
theorem openE_len {k n a s : List UInt8} (h : openE k n a s = 0) : 16 ≤ s.length ∧ s.length ≤ 4112 ∧ sealT k n a (s.take (s.length - 16)) = s.drop (s.length - 16) := by
  unfold openE at h
  split at h
  · cases h
  split at h
  · cases h
  split at h
  · rename_i h1 h2 h3
    exact ⟨by omega, by omega, h3⟩
  · cases h
theorem seal_open {k n a s : List UInt8} (h : openE k n a s = 0) : sealB k n a (openP k n a s) = s := by
  obtain ⟨h1, _, h3⟩ := openE_len h
  unfold openP
  rw [if_pos h, seal_iff h1]
  exact h3
theorem openP_le (k n a s : List UInt8) : (openP k n a s).length ≤ s.length := by
  unfold openP
  split
  · rw [chaXor_length, List.length_take]; omega
  · simp
/-- A node's nonce of a count. -/
def nonceB (node count : Nat) : List UInt8 := leB 8 count ++ leB 2 node ++ [0, 0]
theorem nonceB_length (node count : Nat) : (nonceB node count).length = 12 := by simp [nonceB, leB_length]
theorem seal_example : sealB (List.replicate 32 1) (List.replicate 12 2) [3] [4, 5] = [226, 25, 71, 97, 33, 111, 36, 112, 79, 202, 22, 132, 155, 132, 156, 18, 188, 33] := by kernel_rfl
end Go.Proofs.YtmoffodmbbkolaaDoor

/- The contract of poly.Same: are two rows of bytes one? Conditions: both read as bytes, of at most 2^40. -/
namespace Go.Proofs.YtmoffodmbbkolaaDoor
open Go.RowKit

theorem wrap_i64_nat (n : Nat) (h : n < 9223372036854775808) : IntKind.i64.wrap (n : Int) = (n : Int) := by
  have e : (n : Int) % 2 ^ 64 = n := Int.emod_eq_of_lt (by omega) (by omega)
  simp only [IntKind.wrap, IntKind.bits, IntKind.signed, e]
  rw [if_neg]
  simp
  omega
theorem i64_xor_nat (a b : Nat) (ha : a < 2199023255552) (hb : b < 2199023255552) : bits .xor .i64 (a : Int) (b : Int) = ((a ^^^ b : Nat) : Int) := by
  have hx : a ^^^ b < 2 ^ 41 := Nat.xor_lt_two_pow ha hb
  show IntKind.i64.wrap ((BitVec.ofInt 64 (a : Int) ^^^ BitVec.ofInt 64 (b : Int)).toNat : Int) = _
  rw [BitVec.toNat_xor, ofInt_u64 a (by omega), ofInt_u64 b (by omega)]
  exact wrap_i64_nat _ (by omega)
theorem i64_or_nat (a b : Nat) (ha : a < 2199023255552) (hb : b < 2199023255552) : bits .or .i64 (a : Int) (b : Int) = ((a ||| b : Nat) : Int) := by
  have hx : a ||| b < 2 ^ 41 := Nat.or_lt_two_pow ha hb
  show IntKind.i64.wrap ((BitVec.ofInt 64 (a : Int) ||| BitVec.ofInt 64 (b : Int)).toNat : Int) = _
  rw [BitVec.toNat_or, ofInt_u64 a (by omega), ofInt_u64 b (by omega)]
  exact wrap_i64_nat _ (by omega)
theorem nxor_zero (a b : Nat) : a ^^^ b = 0 ↔ a = b := by
  constructor
  · intro h
    have h1 : a ^^^ b ^^^ b = b := by rw [h, Nat.zero_xor]
    rwa [Nat.xor_assoc, Nat.xor_self, Nat.xor_zero] at h1
  · rintro rfl
    exact Nat.xor_self a
/-- What tells whether the first k bytes, and the lengths, are one. -/
def SmP (xs ys : List UInt8) (k u : Nat) : Prop := u < 2199023255552 ∧ (u = 0 ↔ xs.length = ys.length ∧ xs.take k = ys.take k)
theorem sm_zero {xs ys : List UInt8} (hx : xs.length < 2199023255552) (hy : ys.length < 2199023255552) : SmP xs ys 0 (xs.length ^^^ ys.length) :=
  ⟨Nat.xor_lt_two_pow (n := 41) hx hy, by rw [nxor_zero]; simp⟩
theorem sm_step {xs ys : List UInt8} {k u : Nat} (h : SmP xs ys k u) (hx : k < xs.length) (hy : k < ys.length) : SmP xs ys (k + 1) (u ||| (xs[k].toNat ^^^ ys[k].toNat)) := by
  obtain ⟨h1, h2⟩ := h
  have a := xs[k].toNat_lt
  have b := ys[k].toNat_lt
  refine ⟨Nat.or_lt_two_pow (n := 41) h1 (Nat.lt_of_lt_of_le (Nat.xor_lt_two_pow (n := 8) a b) (by decide)), ?_⟩
  rw [Nat.or_eq_zero_iff, nxor_zero, h2, List.take_succ_eq_append_getElem hx, List.take_succ_eq_append_getElem hy]
  constructor
  · rintro ⟨⟨h3, h4⟩, h5⟩
    exact ⟨h3, by rw [h4, UInt8.toNat_inj.1 h5]⟩
  · rintro ⟨h3, h4⟩
    have h5 := List.append_inj h4 (by rw [List.length_take, List.length_take]; omega)
    refine ⟨⟨h3, h5.1⟩, ?_⟩
    have h6 : xs[k] = ys[k] := by simpa using h5.2
    rw [h6]
theorem sm_end {xs ys : List UInt8} {k u : Nat} (h : SmP xs ys k u) (hk : k = min xs.length ys.length) : ((u : Int) == 0) = decide (xs = ys) := by
  have e : u = 0 ↔ xs = ys := by
    rw [h.2]
    constructor
    · rintro ⟨h1, h2⟩
      rwa [List.take_of_length_le (by omega), List.take_of_length_le (by omega)] at h2
    · rintro rfl
      exact ⟨rfl, rfl⟩
  by_cases h0 : xs = ys
  · have := e.2 h0
    subst this
    rw [decide_eq_true h0]
    rfl
  · have : ¬ u = 0 := fun h1 => h0 (e.1 h1)
    rw [decide_eq_false h0, beq_eq_false_iff_ne]
    omega
def PsmRel (w : World) (xs ys : List UInt8) (c : Nat) (uv v : Value) (W : World) : Prop := ∃ k u n : Nat, v = .int .i64 (k : Int) ∧ uv = .int .i64 (u : Int) ∧ k ≤ c ∧ SmP xs ys k u ∧ W = w.drewN n
noncomputable def body_psm : Code := (((Tryd.f20.body.map loopsOf).getD [])[0]?).getD .skip
set_option maxRecDepth 100000 in
set_option maxHeartbeats 1000000 in
theorem psm_loop (c2 c3 c4 c6 c7 c8 c9 c10 c11 c12 c13 c14 c15 c18 c19 c20 c21 c22 c23 c24 c25 c26 c27 c28 c29 c30 c31 c32 c33 c34 : Value) (A B : Option Addr) (c d m u0 : Nat) (xs ys : List UInt8) (w : World) (hm1 : m ≤ xs.length) (hm2 : m ≤ ys.length) (hc2 : c ≤ 2 ^ 63 - 1) (_hd2 : d ≤ 2 ^ 63 - 1) (hc1 : xs.length ≤ c) (_hd1 : ys.length ≤ d)
    (HA : Hid (0 < xs.length → ∃ b off, A = some ⟨b, off, none⟩ ∧ b < w.heap.size ∧ ∀ i (h : i < xs.length), w.cell? ⟨b, off + i, none⟩ = some (.int .u8 ((xs[i]).toNat : Int))))
    (HB : Hid (0 < ys.length → ∃ b off, B = some ⟨b, off, none⟩ ∧ b < w.heap.size ∧ ∀ i (h : i < ys.length), w.cell? ⟨b, off + i, none⟩ = some (.int .u8 ((ys[i]).toNat : Int)))) (HS0 : Hid (SmP xs ys 0 u0)) {Q : Exit → Act → World → Prop}
    (HQ : Hid (∀ (u6 u17 u18 u19 u20 u21 u22 u23 u24 u25 u26 u27 u28 u29 u30 u31 u32 : Value) (u n : Nat), Hid (SmP xs ys m u) → Q (.exit 0) ⟨List.toArray ((.slice A xs.length c) :: (.slice B ys.length d) :: c2 :: c3 :: c4 :: (.int .i64 (u : Int)) :: u6 :: c7 :: c8 :: c9 :: c10 :: c11 :: c12 :: c13 :: c14 :: c15 :: (.int .i64 (m : Int)) :: u17 :: u18 :: u19 :: u20 :: u21 :: u22 :: u23 :: u24 :: u25 :: u26 :: u27 :: u28 :: u29 :: u30 :: u31 :: u32 :: c33 :: c34 :: []), []⟩ (w.drewN n))) :
    (Code.loop body_psm).wp Tryd.prog Q ⟨List.toArray ((.slice A xs.length c) :: (.slice B ys.length d) :: c2 :: c3 :: c4 :: (.int .i64 (u0 : Int)) :: c6 :: c7 :: c8 :: c9 :: c10 :: c11 :: c12 :: c13 :: c14 :: c15 :: (.int .i64 (m : Int)) :: (.int .i64 0) :: c18 :: c19 :: c20 :: c21 :: c22 :: c23 :: c24 :: c25 :: c26 :: c27 :: c28 :: c29 :: c30 :: c31 :: c32 :: c33 :: c34 :: []), []⟩ w := by
  unfold body_psm
  conv => arg 2; arg 1; whnf
  go_loopw [5, 17] (fun uv v wr => PsmRel w xs ys m uv v wr) (fun _ v _ => m - (intOf v).toNat)
  case atStart => exact ⟨0, u0, 0, rfl, rfl, by omega, HS0.out, rfl⟩
  case round =>
    obtain ⟨k, u, n, rfl, rfl, hk, hs, rfl⟩ := hrel
    have HS := Lib.hid hs
    clear hs
    by_cases hlt : k < m
    · have hkx : k < xs.length := by omega
      have hky : k < ys.length := by omega
      have kI : (k : Int) < m := by omega
      have kx : (k : Int) < xs.length := by omega
      have ky : (k : Int) < ys.length := by omega
      obtain ⟨b, off, rfl, hb1, hb2⟩ := HA.out (by omega)
      obtain ⟨b', off', rfl, hb1', hb2'⟩ := HB.out (by omega)
      have c1 := hb2 k hkx
      have c2 := hb2' k hky
      have HN := Lib.hid (sm_step HS.out hkx hky)
      obtain ⟨x, hx⟩ : ∃ x, x = xs[k].toNat := ⟨_, rfl⟩
      obtain ⟨y, hy⟩ : ∃ y, y = ys[k].toNat := ⟨_, rfl⟩
      have xl : x < 256 := by rw [hx]; exact UInt8.toNat_lt _
      have yl : y < 256 := by rw [hy]; exact UInt8.toNat_lt _
      rw [← hx, ← hy] at HN
      rw [← hx] at c1
      rw [← hy] at c2
      have e1 := u8_xor_nat x y xl yl
      obtain ⟨z, hz⟩ : ∃ z, z = x ^^^ y := ⟨_, rfl⟩
      have zl : z < 256 := by rw [hz]; exact Nat.xor_lt_two_pow (n := 8) xl yl
      rw [← hz] at e1 HN
      have zI : (z : Int) ≤ 255 := by omega
      have HO := Lib.hid (i64_or_nat u z HS.out.1 (by omega))
      clear hb2 hb2' hx hy hz hk
      go_wp2_with (fail)
      go_quiet (fail)
      go_wp2_with (fail)
      go_roundw
      case rel =>
        rw [HO.out]
        exact ⟨k + 1, _, _, by go_num, rfl, by omega, HN.out, rfl⟩
      case measure => simp [intOf]; omega
    · obtain rfl : k = m := by omega
      go_wp2_with (fail)
      exact HQ.out _ _ _ _ _ _ _ _ _ _ _ _ _ _ _ _ _ u n HS
set_option maxRecDepth 100000 in
set_option maxHeartbeats 1000000 in
theorem psame_any (va vb : Value) (xs ys : List UInt8) (w : World) (ha : Rd w va xs) (hb : Rd w vb ys) (hx : xs.length ≤ 1000000000000) (hy : ys.length ≤ 1000000000000) :
    Calls Tryd.prog 20 #[va, vb] w fun e w' => e = .returned (.bool (decide (xs = ys))) ∧ ∃ n, w' = w.drewN n := by
  obtain ⟨A, c, rfl, hc1, hc2, hA⟩ := ha.form
  obtain ⟨B, d, rfl, hd1, hd2, hB⟩ := hb.form
  unfold maxLen at hc2 hd2
  have HA := Lib.hid hA
  have HB := Lib.hid hB
  have HX := Lib.hid hx
  have HY := Lib.hid hy
  have s0 := sm_zero (xs := xs) (ys := ys) (by omega) (by omega)
  have x0 := i64_xor_nat xs.length ys.length (by omega) (by omega)
  obtain ⟨u0, hu0⟩ : ∃ u, u = xs.length ^^^ ys.length := ⟨_, rfl⟩
  rw [← hu0] at s0 x0
  have HS0 := Lib.hid s0
  clear hA hB ha hb s0 hu0 hx hy
  obtain ⟨b, hb⟩ : ∃ b, b = decide (xs = ys) := ⟨_, rfl⟩
  have HBB := Lib.hid hb
  rw [← hb]
  clear hb
  by_cases hle : xs.length ≤ ys.length
  · have hle1 : (xs.length : Int) ≤ (ys.length : Int) := by omega
    go_enter Tryd.func20, Tryd.ntmps20
    go_wp2_with (fail)
    refine psm_loop _ _ _ _ _ _ _ _ _ _ _ _ _ _ _ _ _ _ _ _ _ _ _ _ _ _ _ _ _ _ A B c d xs.length u0 xs ys w (by omega) (by omega) hc2 hd2 hc1 hd1 HA HB HS0 (Lib.hid ?_)
    intro u6 u17 u18 u19 u20 u21 u22 u23 u24 u25 u26 u27 u28 u29 u30 u31 u32 u n hs
    have h1 : ((u : Int) == 0) = b := by rw [HBB.out]; exact sm_end hs.out (by omega)
    go_wp2_with (fail)
    go_ret
    exact ⟨rfl, _, rfl⟩
  · have hle1 : ¬ (xs.length : Int) ≤ (ys.length : Int) := by omega
    go_enter Tryd.func20, Tryd.ntmps20
    go_wp2_with (fail)
    refine psm_loop _ _ _ _ _ _ _ _ _ _ _ _ _ _ _ _ _ _ _ _ _ _ _ _ _ _ _ _ _ _ A B c d ys.length u0 xs ys w (by omega) (by omega) hc2 hd2 hc1 hd1 HA HB HS0 (Lib.hid ?_)
    intro u6 u17 u18 u19 u20 u21 u22 u23 u24 u25 u26 u27 u28 u29 u30 u31 u32 u n hs
    have h1 : ((u : Int) == 0) = b := by rw [HBB.out]; exact sm_end hs.out (by omega)
    go_wp2_with (fail)
    go_ret
    exact ⟨rfl, _, rfl⟩
end Go.Proofs.YtmoffodmbbkolaaDoor
