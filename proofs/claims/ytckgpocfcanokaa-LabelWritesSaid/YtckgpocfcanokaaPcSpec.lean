/- Pieces, reckoned: which counts, what is merged. No program in sight, no condition. -/
import Derived.Test.YtckgpocfcanokaaMem
namespace Go.Proofs.Ytckgpocfcanokaa
open Go.RowKit

theorem bl_irrefl : ∀ x : List UInt8, Op.bytesLess x x = false
  | [] => rfl
  | a :: x => by
    rw [Op.bytesLess, bl_irrefl x, Bool.and_false, Bool.or_false]
    exact decide_eq_false (by simp)
theorem bl_trans : ∀ {x y z : List UInt8}, Op.bytesLess x y = true → Op.bytesLess y z = true → Op.bytesLess x z = true
  | _, [], _, h, _ => by simp [Op.bytesLess] at h
  | [], _ :: _, [], _, h => by simp [Op.bytesLess] at h
  | [], _ :: _, _ :: _, _, _ => rfl
  | _ :: _, _ :: _, [], _, h => by simp [Op.bytesLess] at h
  | a :: x, b :: y, c :: z, h, g => by
    simp only [Op.bytesLess, Bool.or_eq_true, decide_eq_true_eq, Bool.and_eq_true, beq_iff_eq] at h g ⊢
    rcases h with h | ⟨rfl, h⟩
    · rcases g with g | ⟨rfl, _⟩
      · exact .inl (UInt8.lt_trans h g)
      · exact .inl h
    · rcases g with g | ⟨rfl, g⟩
      · exact .inl g
      · exact .inr ⟨rfl, bl_trans h g⟩
theorem bl_tri : ∀ {x y : List UInt8}, x ≠ y → Op.bytesLess x y = false → Op.bytesLess y x = true
  | [], [], h, _ => absurd rfl h
  | [], _ :: _, _, h => by simp [Op.bytesLess] at h
  | _ :: _, [], _, _ => rfl
  | a :: x, b :: y, hne, h => by
    simp only [Op.bytesLess, Bool.or_eq_false_iff, decide_eq_false_iff_not, Bool.and_eq_false_imp, beq_iff_eq] at h
    simp only [Op.bytesLess, Bool.or_eq_true, decide_eq_true_eq, Bool.and_eq_true, beq_iff_eq]
    by_cases e : a = b
    · subst e
      exact .inr ⟨rfl, bl_tri (fun e => hne (by rw [e])) (h.2 rfl)⟩
    · left
      have h1 := h.1
      rw [UInt8.lt_iff_toNat_lt] at h1 ⊢
      have h2 : a.toNat ≠ b.toNat := fun e2 => e (UInt8.toNat_inj.1 e2)
      omega
theorem str_inj {a b : ByteArray} (h : a.toList = b.toList) : a = b := by
  rw [ByteArray.toList_eq, ByteArray.toList_eq] at h
  exact ByteArray.ext (Array.toList_inj.1 h)
/-- A piece: its series, its time, its value, its id's number and node. -/
structure Pc where
  s : ByteArray
  t : Int
  v : Int
  n : Nat
  o : Nat
def Pc.vs (p : Pc) : List Value := [.string p.s, .int .i64 p.t, .int .i64 p.v, .int .u64 (p.n : Int), .int .u16 (p.o : Int)]
structure Pc.Ok (p : Pc) : Prop where
  s : p.s.size ≤ maxLen
  t : (Lit.int .i64 p.t).wf = true
  v : (Lit.int .i64 p.v).wf = true
  n : p.n < 18446744073709551616
  o : p.o < 65536
/-- It may be. -/
def Pc.may (p : Pc) : Prop := 1 ≤ p.s.size ∧ p.s.size ≤ 200
/-- An id above another. -/
def aboveP (n o m q : Nat) : Bool := decide (m < n) || (decide (n = m) && decide (q < o))
def lessP (a b : Pc) : Bool := if a.s.toList ≠ b.s.toList then Op.bytesLess a.s.toList b.s.toList else if a.t ≠ b.t then decide (a.t < b.t) else aboveP b.n b.o a.n a.o
def sameK (a b : Pc) : Prop := a.s = b.s ∧ a.t = b.t
/-- The key's order. -/
def keyLt (a b : Pc) : Prop := Op.bytesLess a.s.toList b.s.toList = true ∨ (a.s = b.s ∧ a.t < b.t)
/-- What outdoes. -/
def outP (p q : Pc) : Prop := aboveP p.n p.o q.n q.o = true ∨ (p.n = q.n ∧ p.o = q.o ∧ q.v < p.v)
theorem above_iff {n o m q : Nat} : aboveP n o m q = true ↔ m < n ∨ (n = m ∧ q < o) := by
  unfold aboveP
  simp only [Bool.or_eq_true, Bool.and_eq_true, decide_eq_true_eq]
theorem outP_iff {p q : Pc} : outP p q ↔ q.n < p.n ∨ (p.n = q.n ∧ (q.o < p.o ∨ (p.o = q.o ∧ q.v < p.v))) := by
  unfold outP
  rw [above_iff]
  omega
theorem keyLt_irrefl (a : Pc) : ¬ keyLt a a := fun h => by
  rcases h with h | h
  · rw [bl_irrefl] at h
    cases h
  · omega
theorem keyLt_trans {a b c : Pc} (h : keyLt a b) (g : keyLt b c) : keyLt a c := by
  rcases h with h | ⟨h, ht⟩
  · rcases g with g | ⟨g, _⟩
    · exact .inl (bl_trans h g)
    · rw [g] at h
      exact .inl h
  · rcases g with g | ⟨g, gt⟩
    · rw [← h] at g
      exact .inl g
    · exact .inr ⟨h.trans g, by omega⟩
theorem keyLt_less {a b : Pc} (h : keyLt a b) : lessP a b = true := by
  unfold lessP
  rcases h with h | ⟨h, ht⟩
  · rw [if_pos fun e => by rw [e, bl_irrefl] at h; cases h]
    exact h
  · rw [if_neg (by rw [h]; exact fun e => e rfl), if_pos (by omega), decide_eq_true ht]
theorem less_irrefl (a : Pc) : lessP a a = false := by
  unfold lessP
  rw [if_neg fun e => e rfl, if_neg fun e => e rfl]
  unfold aboveP
  simp
/-- What is merged of some pieces. -/
structure MergedOf (M l : List Pc) : Prop where
  sorted : M.Pairwise keyLt
  mem : ∀ p ∈ M, p ∈ l ∧ p.may
  best : ∀ p ∈ M, ∀ q ∈ l, q.may → sameK p q → ¬ outP q p
  all : ∀ q ∈ l, q.may → ∃ p ∈ M, sameK p q
theorem MergedOf.congr {M l l' : List Pc} (h : MergedOf M l) (hl : ∀ p, p ∈ l ↔ p ∈ l') : MergedOf M l' :=
  ⟨h.sorted, fun p hp => ⟨(hl p).1 (h.mem p hp).1, (h.mem p hp).2⟩, fun p hp q hq => h.best p hp q ((hl q).2 hq), fun q hq => h.all q ((hl q).2 hq)⟩
theorem pc_eq {p q : Pc} (hk : sameK p q) (h1 : ¬ outP p q) (h2 : ¬ outP q p) : p = q := by
  obtain ⟨s, t, v, n, o⟩ := p
  obtain ⟨s', t', v', n', o'⟩ := q
  obtain ⟨e1, e2⟩ := hk
  rw [outP_iff] at h1 h2
  simp only at e1 e2 h1 h2
  obtain rfl := e1
  obtain rfl := e2
  obtain rfl : n = n' := by omega
  obtain rfl : o = o' := by omega
  obtain rfl : v = v' := by omega
  rfl
theorem sameK.symm {p q : Pc} (h : sameK p q) : sameK q p := ⟨h.1.symm, h.2.symm⟩
theorem sameK.trans {p q r : Pc} (h : sameK p q) (g : sameK q r) : sameK p r := ⟨h.1.trans g.1, h.2.trans g.2⟩
theorem keyLt_not_same {a b : Pc} (h : keyLt a b) : ¬ sameK a b := fun g => by
  rcases h with h | ⟨_, h⟩
  · rw [g.1, bl_irrefl] at h
    cases h
  · have := g.2
    omega
theorem sorted_ext : ∀ {M N : List Pc}, M.Pairwise keyLt → N.Pairwise keyLt → (∀ p, p ∈ M ↔ p ∈ N) → M = N
  | [], [], _, _, _ => rfl
  | [], q :: N, _, _, h => absurd ((h q).2 (List.mem_cons_self ..)) (by simp)
  | p :: M, [], _, _, h => absurd ((h p).1 (List.mem_cons_self ..)) (by simp)
  | p :: M, q :: N, hM, hN, h => by
    rw [List.pairwise_cons] at hM hN
    have e : p = q := by
      rcases List.mem_cons.1 ((h p).1 (List.mem_cons_self ..)) with e | e
      · exact e
      · rcases List.mem_cons.1 ((h q).2 (List.mem_cons_self ..)) with e2 | e2
        · exact e2.symm
        · exact absurd (keyLt_trans (hN.1 p e) (hM.1 q e2)) (keyLt_irrefl _)
    subst e
    rw [sorted_ext hM.2 hN.2 fun r => ⟨fun hr => ?_, fun hr => ?_⟩]
    · rcases List.mem_cons.1 ((h r).1 (List.mem_cons_of_mem _ hr)) with e | e
      · rw [e] at hr
        exact absurd (hM.1 p hr) (keyLt_irrefl _)
      · exact e
    · rcases List.mem_cons.1 ((h r).2 (List.mem_cons_of_mem _ hr)) with e | e
      · rw [e] at hr
        exact absurd (hN.1 p hr) (keyLt_irrefl _)
      · exact e
theorem merged_one {M N l : List Pc} (h : MergedOf M l) (g : MergedOf N l) : M = N := by
  have half : ∀ {M N : List Pc}, MergedOf M l → MergedOf N l → ∀ p, p ∈ M → p ∈ N := fun {M N} h g p hp => by
    obtain ⟨h1, h2⟩ := h.mem p hp
    obtain ⟨q, hq, hk⟩ := g.all p h1 h2
    obtain ⟨g1, g2⟩ := g.mem q hq
    have e := pc_eq hk (h.best p hp q g1 g2 hk.symm) (g.best q hq p h1 h2 hk)
    rw [← e]
    exact hq
  exact sorted_ext h.sorted g.sorted fun p => ⟨half h g p, half g h p⟩
theorem outP_le {p q r : Pc} (h : ¬ outP q r) (g : ¬ outP r p) : ¬ outP q p := by
  rw [outP_iff] at h g ⊢
  omega
/-- To merge some first makes no odds. -/
theorem merged_part {M1 M l1 l2 : List Pc} (h1 : MergedOf M1 l1) (h : MergedOf M (M1 ++ l2)) : MergedOf M (l1 ++ l2) := by
  refine ⟨h.sorted, fun p hp => ?_, fun p hp q hq hm hk => ?_, fun q hq hm => ?_⟩
  · obtain ⟨h2, h3⟩ := h.mem p hp
    rcases List.mem_append.1 h2 with h4 | h4
    · exact ⟨List.mem_append.2 (.inl (h1.mem p h4).1), h3⟩
    · exact ⟨List.mem_append.2 (.inr h4), h3⟩
  · rcases List.mem_append.1 hq with h4 | h4
    · obtain ⟨r, hr, hk2⟩ := h1.all q h4 hm
      have h5 := h1.best r hr q h4 hm hk2
      have h6 := h.best p hp r (List.mem_append.2 (.inl hr)) (h1.mem r hr).2 (hk.trans hk2.symm)
      exact outP_le h5 h6
    · exact h.best p hp q (List.mem_append.2 (.inr h4)) hm hk
  · rcases List.mem_append.1 hq with h4 | h4
    · obtain ⟨r, hr, hk2⟩ := h1.all q h4 hm
      obtain ⟨p, hp, hk⟩ := h.all r (List.mem_append.2 (.inl hr)) (h1.mem r hr).2
      exact ⟨p, hp, hk.trans hk2⟩
    · exact h.all q (List.mem_append.2 (.inr h4)) hm
theorem merged_self {M l : List Pc} (h : MergedOf M l) : MergedOf M (M ++ M) := by
  refine ⟨h.sorted, fun p hp => ⟨List.mem_append.2 (.inl hp), (h.mem p hp).2⟩, fun p hp q hq hm hk => ?_, fun q hq hm => ⟨q, ?_, rfl, rfl⟩⟩
  · have hq : q ∈ M := (List.mem_append.1 hq).elim id id
    exact h.best p hp q (h.mem q hq).1 hm hk
  · exact (List.mem_append.1 hq).elim id id
/-- Those between two times. -/
def betweenP (l : List Pc) (a b : Int) : List Pc := l.filter fun p => decide (a ≤ p.t) && decide (p.t ≤ b)
theorem between_all {l : List Pc} (h : ∀ p ∈ l, p.Ok) : betweenP l (-9223372036854775808) 9223372036854775807 = l := by
  unfold betweenP
  refine List.filter_eq_self.2 fun p hp => ?_
  have h1 := (h p hp).t
  simp [Lit.wf, IntKind.min, IntKind.max, IntKind.signed, IntKind.bits] at h1
  simp only [Bool.and_eq_true, decide_eq_true_eq]
  omega
end Go.Proofs.Ytckgpocfcanokaa
