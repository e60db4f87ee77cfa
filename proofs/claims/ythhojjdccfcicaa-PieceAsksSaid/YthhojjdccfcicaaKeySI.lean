/- Keys that are a struct of a text and a number of 64 bits, in whatever program. Premises: the type's own facts. -/
import Derived.Test.YthhojjdccfcicaaMapK
import Derived.DeepKeys4
namespace Go.Proofs.Ythhojjdccfcicaa
open Go.RowKit

/-- What is asked of the type. -/
structure StrInt (P : Program) (kt ts ti : TypeId) : Prop where
  laid : laidOutB P = true
  row : kt < P.types.size
  at2 : P.keyTypeAt 2 kt = true
  und : ∃ fs : Array Field, P.underlying kt = some (.struct fs) ∧ fs.toList.map (fun f => (f.type, f.offset)) = [(ts, 0), (ti, 1)] ∧ fs.all (·.name != "_") = true
  whole : P.keyType kt = true
  cells : P.cellsOf kt = 2
  str : P.underlying ts = some .string
  strc : P.cellsOf ts = 1
  int : P.underlying ti = some (.int .i64)
  intc : P.cellsOf ti = 1
theorem StrInt.keyed {P : Program} {kt ts ti : TypeId} (h : StrInt P kt ts ti) : Maps.Keyed P kt := by
  obtain ⟨fs, h1, h2, h3⟩ := h.und
  exact Maps.Keyed.of_law (deep_law_laid h.laid (m := 2) (by omega) h.row h.at2 (by rw [h1]))
/-- A key's literal. -/
def litSI (x : ByteArray × Int) : Lit := .string (keyBytes [.string x.1.data.toList, .int .i64 x.2])
theorem StrInt.lits {P : Program} {kt ts ti : TypeId} (h : StrInt P kt ts ti) (n : Nat) (a b : Value) : P.keyLits (n + 2) kt [a, b] = (P.keyLits (n + 1) ts [a]).bind fun x => (P.keyLits (n + 1) ti [b]).map fun y => x ++ y := by
  obtain ⟨fs, h1, h2, h3⟩ := h.und
  obtain ⟨l⟩ := fs
  rcases l with _ | ⟨f0, _ | ⟨f1, _ | ⟨f2, l⟩⟩⟩
  · simp at h2
  · simp at h2
  · simp only [List.map_cons, List.map_nil, List.cons.injEq, Prod.mk.injEq, and_true] at h2
    obtain ⟨⟨e1, e2⟩, e3, e4⟩ := h2
    rw [Program.keyLits.eq_def]
    simp only [h1, List.length_cons, List.length_nil, h.cells, h3, and_self, if_true, List.mapM_cons, List.mapM_nil, e1, e2, e3, e4, h.strc, h.intc, List.drop_zero, List.drop_succ_cons, List.take_succ_cons, List.take_zero]
    cases P.keyLits (n + 1) ts [a] with
    | none => rfl
    | some x =>
      cases P.keyLits (n + 1) ti [b] with
      | none => rfl
      | some y => simp
  · simp at h2
theorem StrInt.read {P : Program} {kt ts ti : TypeId} (h : StrInt P kt ts ti) (a b : Value) : keyOf P kt (.agg #[a, b]) = (P.keyLits P.types.size ts [a]).bind fun x => (P.keyLits P.types.size ti [b]).map fun y => .string (keyBytes (x ++ y)) := by
  obtain ⟨fs, h1, h2, h3⟩ := h.und
  have hr := h.row
  obtain ⟨n, hn⟩ : ∃ n, P.types.size = n + 1 := Nat.exists_eq_succ_of_ne_zero (Nat.ne_of_gt (Nat.lt_of_le_of_lt (Nat.zero_le _) hr))
  unfold keyOf
  rw [h1]
  simp only [h.whole, Value.formed, h1, h.cells, Bool.true_and, Value.cells]
  rw [hn, h.lits]
  simp
  cases P.keyLits (n + 1) ts [a] with
  | none => rfl
  | some x => cases P.keyLits (n + 1) ti [b] <;> rfl
theorem lits_str {P : Program} {ts : TypeId} (h : P.underlying ts = some .string) (n : Nat) (a : Value) (x : List Lit) : P.keyLits (n + 1) ts [a] = some x ↔ ∃ s : ByteArray, a = .string s ∧ s.size ≤ maxLen ∧ x = [.string s.data.toList] := by
  rw [Program.keyLits.eq_def]
  simp only [h]
  cases a <;> simp
  case string s => exact fun _ => eq_comm
theorem lits_int {P : Program} {ti : TypeId} (h : P.underlying ti = some (.int .i64)) (n : Nat) (a : Value) (x : List Lit) : P.keyLits (n + 1) ti [a] = some x ↔ ∃ z : Int, a = .int .i64 z ∧ (Lit.int .i64 z).wf = true ∧ x = [.int .i64 z] := by
  rw [Program.keyLits.eq_def]
  simp only [h]
  cases a <;> simp
  case int q z =>
    constructor
    · rintro ⟨⟨rfl, h1⟩, rfl⟩
      exact ⟨z, ⟨rfl, rfl⟩, h1, rfl⟩
    · rintro ⟨_, ⟨rfl, rfl⟩, h1, rfl⟩
      exact ⟨⟨rfl, h1⟩, rfl⟩
theorem StrInt.key_iff {P : Program} {kt ts ti : TypeId} (h : StrInt P kt ts ti) (v : Value) (l : Lit) : keyOf P kt v = some l ↔ ∃ x : ByteArray × Int, (x.1.size ≤ maxLen ∧ (Lit.int .i64 x.2).wf = true) ∧ v = .agg #[.string x.1, .int .i64 x.2] ∧ l = litSI x := by
  have hr := h.row
  obtain ⟨n, hn⟩ : ∃ n, P.types.size = n + 1 := Nat.exists_eq_succ_of_ne_zero (Nat.ne_of_gt (Nat.lt_of_le_of_lt (Nat.zero_le _) hr))
  constructor
  · intro hk
    obtain ⟨a, b, rfl⟩ : ∃ a b, v = .agg #[a, b] := by
      obtain ⟨fs, h1, h2, h3⟩ := h.und
      unfold keyOf at hk
      rw [h1] at hk
      simp only [h.whole, Bool.true_and] at hk
      split at hk
      · next hf =>
        unfold Value.formed at hf
        split at hf
        · next cs =>
          rw [h1] at hf
          simp only [h.cells, beq_iff_eq] at hf
          obtain ⟨l⟩ := cs
          rcases l with _ | ⟨a, _ | ⟨b, _ | ⟨c, l⟩⟩⟩
          · simp at hf
          · simp at hf
          · exact ⟨a, b, rfl⟩
          · simp at hf
        · cases hf
        · rw [h1] at hf
          cases hf
      · cases hk
    rw [h.read, hn] at hk
    cases e1 : P.keyLits (n + 1) ts [a] with
    | none => rw [e1] at hk; cases hk
    | some x =>
      cases e2 : P.keyLits (n + 1) ti [b] with
      | none => rw [e1, e2] at hk; cases hk
      | some y =>
        rw [e1, e2] at hk
        obtain ⟨s, rfl, h1, rfl⟩ := (lits_str h.str n a x).1 e1
        obtain ⟨z, rfl, h2, rfl⟩ := (lits_int h.int n b y).1 e2
        injection hk with hk
        exact ⟨(s, z), ⟨h1, h2⟩, rfl, hk.symm⟩
  · rintro ⟨⟨s, z⟩, ⟨h1, h2⟩, rfl, rfl⟩
    rw [h.read, hn, (lits_str h.str n _ _).2 ⟨s, rfl, h1, rfl⟩, (lits_int h.int n _ _).2 ⟨z, rfl, h2, rfl⟩]
    rfl
/-- The keys' law. -/
def StrInt.keys {P : Program} {kt ts ti : TypeId} (h : StrInt P kt ts ti) : KeyD P kt (ByteArray × Int) where
  keyed := h.keyed
  val x := .agg #[.string x.1, .int .i64 x.2]
  lit := litSI
  ok x := x.1.size ≤ maxLen ∧ (Lit.int .i64 x.2).wf = true
  key {x} hx := (h.key_iff _ _).2 ⟨x, hx, rfl, rfl⟩
  back hk := (h.key_iff _ _).1 hk
  inj {x y} hxy := by
    obtain ⟨s, z⟩ := x
    obtain ⟨s', z'⟩ := y
    simp at hxy
    rw [hxy.1, hxy.2]
end Go.Proofs.Ythhojjdccfcicaa
