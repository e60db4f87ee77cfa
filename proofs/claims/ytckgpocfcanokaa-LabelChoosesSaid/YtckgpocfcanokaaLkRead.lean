/- What a label's text is read as, reckoned: from question to question. No program in sight, no condition. -/
import Derived.Test.YtckgpocfcanokaaLbSpec
namespace Go.Proofs.Ytckgpocfcanokaa
open Go.RowKit

/-- A word's letters, and what is behind them. -/
def wdB (l : List UInt8) : List UInt8 := l.takeWhile letterB
def bhB (l : List UInt8) : List UInt8 := l.dropWhile letterB
theorem wd_bh (l : List UInt8) : wdB l ++ bhB l = l := List.takeWhile_append_dropWhile
/-- The sign that a text begins with; what is behind it. -/
def sgR (l : List UInt8) : Option (Int × List UInt8) :=
  if [61].isPrefixOf l = true then some (0, l.drop 1) else if [33, 61].isPrefixOf l = true then some (1, l.drop 2) else if [94, 61].isPrefixOf l = true then some (2, l.drop 2) else none
theorem wd_of : ∀ {x s : List UInt8}, (∀ c ∈ x, letterB c = true) → (∀ c, s.head? = some c → letterB c = false) → wdB (x ++ s) = x ∧ bhB (x ++ s) = s
  | [], [], _, _ => ⟨rfl, rfl⟩
  | [], b :: s, _, h => by
    have h1 := h b rfl
    unfold wdB bhB
    rw [List.nil_append, List.takeWhile_cons, List.dropWhile_cons, h1]
    exact ⟨rfl, rfl⟩
  | a :: x, s, hx, hs => by
    obtain ⟨h1, h2⟩ := wd_of (x := x) (s := s) (fun c hc => hx c (List.mem_cons_of_mem _ hc)) hs
    unfold wdB at h1
    unfold bhB at h2
    unfold wdB bhB
    have h3 := hx a (List.mem_cons_self ..)
    rw [List.cons_append, List.takeWhile_cons, List.dropWhile_cons, h3, if_pos rfl, if_pos rfl, h1, h2]
    exact ⟨rfl, rfl⟩
theorem sgR_of {g : Int} (hg : g = 0 ∨ g = 1 ∨ g = 2) (r : List UInt8) : sgR (sgB g ++ r) = some (g, r) := by
  rcases hg with rfl | rfl | rfl
  · show sgR (61 :: r) = _
    unfold sgR
    rw [if_pos (by rw [List.isPrefixOf_iff_prefix]; exact ⟨r, rfl⟩)]
    rfl
  · show sgR (33 :: 61 :: r) = _
    unfold sgR
    rw [if_neg (by simp [List.isPrefixOf]), if_pos (by rw [List.isPrefixOf_iff_prefix]; exact ⟨r, rfl⟩)]
    rfl
  · show sgR (94 :: 61 :: r) = _
    unfold sgR
    rw [if_neg (by simp [List.isPrefixOf]), if_neg (by simp [List.isPrefixOf]), if_pos (by rw [List.isPrefixOf_iff_prefix]; exact ⟨r, rfl⟩)]
    rfl
theorem sgR_is {l : List UInt8} {g : Int} {r : List UInt8} (h : sgR l = some (g, r)) : l = sgB g ++ r ∧ (g = 0 ∨ g = 1 ∨ g = 2) := by
  unfold sgR at h
  split at h
  · rename_i h1
    obtain ⟨t, rfl⟩ := List.isPrefixOf_iff_prefix.1 h1
    injection h with h
    injection h with h1 h2
    subst h1 h2
    exact ⟨rfl, .inl rfl⟩
  · split at h
    · rename_i h1
      obtain ⟨t, rfl⟩ := List.isPrefixOf_iff_prefix.1 h1
      injection h with h
      injection h with h1 h2
      subst h1 h2
      exact ⟨rfl, .inr (.inl rfl)⟩
    · split at h
      · rename_i h1
        obtain ⟨t, rfl⟩ := List.isPrefixOf_iff_prefix.1 h1
        injection h with h
        injection h with h1 h2
        subst h1 h2
        exact ⟨rfl, .inr (.inr rfl)⟩
      · cases h
/-- What a round of the reader finds: a question, and what is behind it; none: there is none. -/
def askR (l : List UInt8) : Option (List UInt8 × Int × List UInt8 × List UInt8) :=
  if wordB (wdB l) = true then
    match sgR (bhB l) with
    | none => none
    | some (g, r) => if wordB (wdB r) = true then some (wdB l, g, wdB r, bhB r) else none
  else none
/-- What stands behind a question. -/
def endB (m : List Qu) : List UInt8 := (if m.isEmpty = true then [125] else [44]) ++ bodyB m
theorem body_cons (q : Qu) (m : List Qu) : bodyB (q :: m) = q.n.toList ++ (sgB q.g ++ (q.v.toList ++ endB m)) := rfl
theorem ask_body {q : Qu} {m : List Qu} (hq : QOk q) : askR (bodyB (q :: m)) = some (q.n.toList, q.g, q.v.toList, endB m) := by
  rw [body_cons]
  unfold askR
  obtain ⟨e1, e2⟩ := wd_of (x := q.n.toList) (s := sgB q.g ++ (q.v.toList ++ endB m)) (word_letters hq.n) (sg_head _ _)
  rw [e1, e2, if_pos hq.n, sgR_of hq.g]
  obtain ⟨e3, e4⟩ := wd_of (x := q.v.toList) (s := endB m) (word_letters hq.v) (end_head _ _)
  simp only [e3, e4, hq.v, if_true]
theorem ask_is {l : List UInt8} {x y r : List UInt8} {g : Int} (h : askR l = some (x, g, y, r)) : l = x ++ (sgB g ++ (y ++ r)) ∧ wordB x = true ∧ wordB y = true ∧ (g = 0 ∨ g = 1 ∨ g = 2) := by
  unfold askR at h
  split at h
  · rename_i h1
    split at h
    · cases h
    · rename_i g' r' h2
      split at h
      · rename_i h3
        injection h with h
        injection h with e1 h
        injection h with e2 h
        injection h with e3 e4
        subst e1 e2 e3 e4
        obtain ⟨e5, e6⟩ := sgR_is h2
        refine ⟨?_, h1, h3, e6⟩
        rw [wd_bh, ← e5, wd_bh]
      · cases h
  · cases h
/-- What is told by the text behind the brace, if these questions were read and that is left. -/
structure Jn (b : List UInt8) (l : List Qu) (rest : List UInt8) : Prop where
  ok : ∀ q ∈ l, QOk q
  iff : ∀ m, (∀ q ∈ m, QOk q) → ((m ≠ [] ∧ bodyB m = b) ↔ ∃ m', m' ≠ [] ∧ m = l ++ m' ∧ bodyB m' = rest)
theorem Jn.start (b : List UInt8) : Jn b [] b := ⟨fun q h => (List.not_mem_nil h).elim, fun m _ => ⟨fun h => ⟨m, h.1, rfl, h.2⟩, fun ⟨m', h1, h2, h3⟩ => by rw [h2, List.nil_append]; exact ⟨h1, h3⟩⟩⟩
/-- No question: the text is none's. -/
theorem Jn.bad {b rest : List UInt8} {l : List Qu} (h : Jn b l rest) (hn : askR rest = none) : ∀ m, (∀ q ∈ m, QOk q) → m ≠ [] → bodyB m ≠ b := fun m hm hne e => by
  obtain ⟨m', h1, h2, h3⟩ := (h.iff m hm).1 ⟨hne, e⟩
  rcases m' with _ | ⟨q, m'⟩
  · exact h1 rfl
  · rw [← h3, ask_body (hm q (by rw [h2]; exact List.mem_append_right _ (List.mem_cons_self ..)))] at hn
    cases hn
/-- Too many. -/
theorem Jn.many {b rest : List UInt8} {l : List Qu} (h : Jn b l rest) (hl : 8 ≤ l.length) : ∀ m, (∀ q ∈ m, QOk q) → m ≠ [] → m.length ≤ 8 → bodyB m ≠ b := fun m hm hne h8 e => by
  obtain ⟨m', h1, h2, _⟩ := (h.iff m hm).1 ⟨hne, e⟩
  have h3 := congrArg List.length h2
  rw [List.length_append] at h3
  have h4 : 0 < m'.length := List.length_pos_iff.2 h1
  omega
theorem Jn.ask {b rest r x y : List UInt8} {g : Int} {l : List Qu} (h : Jn b l rest) (ha : askR rest = some (x, g, y, r)) {m : List Qu} (hm : ∀ q ∈ m, QOk q) : (m ≠ [] ∧ bodyB m = b) ↔ ∃ q m', m = l ++ q :: m' ∧ q.n.toList = x ∧ q.g = g ∧ q.v.toList = y ∧ endB m' = r := by
  rw [h.iff m hm]
  constructor
  · rintro ⟨m', h1, h2, h3⟩
    rcases m' with _ | ⟨q, m'⟩
    · exact absurd rfl h1
    · refine ⟨q, m', h2, ?_⟩
      rw [← h3, ask_body (hm q (by rw [h2]; exact List.mem_append_right _ (List.mem_cons_self ..)))] at ha
      injection ha with ha
      injection ha with e1 ha
      injection ha with e2 ha
      injection ha with e3 e4
      exact ⟨e1, e2, e3, e4⟩
  · rintro ⟨q, m', h2, e1, e2, e3, e4⟩
    refine ⟨q :: m', List.cons_ne_nil _ _, h2, ?_⟩
    rw [body_cons, e1, e2, e3, e4]
    exact (ask_is ha).1.symm
/-- A comma: on. -/
theorem Jn.next {b rest r : List UInt8} {q : Qu} {l : List Qu} (h : Jn b l rest) (ha : askR rest = some (q.n.toList, q.g, q.v.toList, 44 :: r)) : Jn b (l ++ [q]) r := by
  obtain ⟨_, hx, hy, hg⟩ := ask_is ha
  have hq : QOk q := ⟨hx, hy, hg⟩
  refine ⟨fun p hp => ?_, fun m hm => ?_⟩
  · rcases List.mem_append.1 hp with h1 | h1
    · exact h.ok p h1
    · rw [List.mem_singleton.1 h1]; exact hq
  · rw [h.ask ha hm]
    constructor
    · rintro ⟨q', m', h1, e1, e2, e3, e4⟩
      have e5 : q' = q := by
        obtain ⟨n, g, v⟩ := q
        obtain ⟨n', g', v'⟩ := q'
        simp only at e1 e2 e3
        rw [str_inj e1, e2, str_inj e3]
      subst e5
      rcases m' with _ | ⟨p, m'⟩
      · exact absurd e4 (by unfold endB; simp)
      · unfold endB at e4
        simp only [List.isEmpty_cons, Bool.false_eq_true, if_false, List.cons_append, List.nil_append, List.cons.injEq, true_and] at e4
        exact ⟨p :: m', List.cons_ne_nil _ _, by rw [h1]; simp, e4⟩
    · rintro ⟨m', h1, h2, h3⟩
      refine ⟨q, m', by rw [h2]; simp, rfl, rfl, rfl, ?_⟩
      rcases m' with _ | ⟨p, m'⟩
      · exact absurd rfl h1
      · unfold endB
        simp only [List.isEmpty_cons, Bool.false_eq_true, if_false, List.cons_append, List.nil_append, h3]
/-- The other brace: the end, just if nothing is left. -/
theorem Jn.done {b rest r : List UInt8} {q : Qu} {l : List Qu} (h : Jn b l rest) (ha : askR rest = some (q.n.toList, q.g, q.v.toList, 125 :: r)) : (∀ p ∈ l ++ [q], QOk p) ∧ ∀ m, (∀ q ∈ m, QOk q) → ((m ≠ [] ∧ bodyB m = b) ↔ r = [] ∧ m = l ++ [q]) := by
  obtain ⟨_, hx, hy, hg⟩ := ask_is ha
  have hq : QOk q := ⟨hx, hy, hg⟩
  refine ⟨fun p hp => ?_, fun m hm => ?_⟩
  · rcases List.mem_append.1 hp with h1 | h1
    · exact h.ok p h1
    · rw [List.mem_singleton.1 h1]; exact hq
  · rw [h.ask ha hm]
    constructor
    · rintro ⟨q', m', h1, e1, e2, e3, e4⟩
      have e5 : q' = q := by
        obtain ⟨n, g, v⟩ := q
        obtain ⟨n', g', v'⟩ := q'
        simp only at e1 e2 e3
        rw [str_inj e1, e2, str_inj e3]
      subst e5
      rcases m' with _ | ⟨p, m'⟩
      · unfold endB at e4
        simp only [List.isEmpty_nil, if_true, bodyB, List.cons_append, List.nil_append, List.cons.injEq, true_and] at e4
        exact ⟨e4.symm, h1⟩
      · exact absurd e4 (by unfold endB; simp)
    · rintro ⟨rfl, h1⟩
      exact ⟨q, [], h1, rfl, rfl, rfl, rfl⟩
/-- Neither: the text is none's. -/
theorem Jn.odd {b rest r x y : List UInt8} {g : Int} {l : List Qu} (h : Jn b l rest) (ha : askR rest = some (x, g, y, r)) (h1 : ∀ t, r ≠ 44 :: t) (h2 : ∀ t, r ≠ 125 :: t) : ∀ m, (∀ q ∈ m, QOk q) → m ≠ [] → bodyB m ≠ b := fun m hm hne e => by
  obtain ⟨q, m', _, _, _, _, e4⟩ := (h.ask ha hm).1 ⟨hne, e⟩
  unfold endB at e4
  rcases m' with _ | ⟨p, m'⟩
  · exact h2 _ e4.symm
  · exact h1 _ e4.symm
/-- What a text behind a name is read as. -/
structure RdQs (t : List UInt8) (l : List Qu) (g : Bool) : Prop where
  few : l.length ≤ 8
  yes : g = true → l ≠ [] ∧ (∀ q ∈ l, QOk q) ∧ 123 :: bodyB l = t
  no : g = false → ∀ m, (∀ q ∈ m, QOk q) → m ≠ [] → m.length ≤ 8 → 123 :: bodyB m ≠ t
/-- What a text is read as, whole. -/
structure RdSe (t : List UInt8) (s : Se) (g : Bool) : Prop where
  few : s.l.length ≤ 8
  yes : g = true → MayQ s ∧ textB s = t
  no : g = false → ¬ ∃ s, MayQ s ∧ textB s = t
theorem textB_name {s : Se} (h : MayQ s) : wdB (textB s) = s.n.toList ∧ bhB (textB s) = (if s.l.isEmpty = true then [] else 123 :: bodyB s.l) := by
  unfold textB
  exact wd_of (name_letters h) (brace_head _ _)
/-- A name that is none. -/
theorem rd_name {t : List UInt8} {n : ByteArray} (hn : n.toList = wdB t) (h0 : n.toList ≠ []) (hw : wordB n.toList = false) : RdSe t ⟨n, []⟩ false := by
  refine ⟨Nat.zero_le _, fun h => (Bool.false_ne_true h).elim, fun _ hx => ?_⟩
  obtain ⟨s, h1, h2⟩ := hx
  have h3 := (textB_name h1).1
  rw [h2, ← hn] at h3
  rcases h1.n with h | h
  · exact h0 (h3.trans h)
  · rw [← h3, hw] at h
    cases h
/-- A name alone. -/
theorem rd_alone {t : List UInt8} {n : ByteArray} (hn : n.toList = wdB t) (hw : n.toList = [] ∨ wordB n.toList = true) (hr : bhB t = []) : RdSe t ⟨n, []⟩ true := by
  refine ⟨Nat.zero_le _, fun _ => ⟨⟨hw, fun q h => (List.not_mem_nil h).elim, Nat.zero_le _⟩, ?_⟩, fun h => (Bool.false_ne_true h.symm).elim⟩
  have h1 := wd_bh t
  rw [hr, List.append_nil] at h1
  unfold textB
  simp only [List.isEmpty_nil, if_true, List.append_nil]
  rw [hn, h1]
/-- A name, and what stands behind it. -/
theorem rd_more {t : List UInt8} {n : ByteArray} {l : List Qu} {g : Bool} (hn : n.toList = wdB t) (hw : n.toList = [] ∨ wordB n.toList = true) (hr : bhB t ≠ []) (h : RdQs (bhB t) l g) : RdSe t ⟨n, l⟩ g := by
  refine ⟨h.few, fun hg => ?_, fun hg hx => ?_⟩
  · obtain ⟨h1, h2, h3⟩ := h.yes hg
    refine ⟨⟨hw, h2, h.few⟩, ?_⟩
    unfold textB
    rcases l with _ | ⟨q, l⟩
    · exact absurd rfl h1
    · simp only [List.isEmpty_cons, Bool.false_eq_true, if_false]
      rw [h3, hn, wd_bh]
  · obtain ⟨s, h1, h2⟩ := hx
    obtain ⟨_, h3⟩ := textB_name h1
    rw [h2] at h3
    cases hl : s.l with
    | nil => rw [hl] at h3; exact hr h3
    | cons q m =>
      rw [hl] at h3
      refine h.no hg s.l h1.q (by rw [hl]; exact List.cons_ne_nil _ _) h1.few ?_
      rw [hl]
      exact h3.symm
end Go.Proofs.Ytckgpocfcanokaa
