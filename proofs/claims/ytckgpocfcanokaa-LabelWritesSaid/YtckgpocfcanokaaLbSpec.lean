/- Series, questions and their texts, reckoned: no two have one text; which are chosen. No program in sight, no condition. -/
import Derived.Test.YtckgpocfcanokaaPcSpec
namespace Go.Proofs.Ytckgpocfcanokaa
open Go.RowKit

def letterB (c : UInt8) : Bool := decide (97 ≤ c.toNat ∧ c.toNat ≤ 122) || decide (65 ≤ c.toNat ∧ c.toNat ≤ 90) || decide (48 ≤ c.toNat ∧ c.toNat ≤ 57) || decide (c.toNat = 95) || decide (c.toNat = 45) || decide (c.toNat = 46) || decide (c.toNat = 47)
def wordB (l : List UInt8) : Bool := decide (1 ≤ l.length) && decide (l.length ≤ 24) && l.all letterB
/-- A question: a name, a sign, a value; a label is one whose sign is 0. -/
structure Qu where
  n : ByteArray
  g : Int
  v : ByteArray
/-- A series, or a selector: a name, its questions. -/
structure Se where
  n : ByteArray
  l : List Qu
def sgB (g : Int) : List UInt8 := if g = 0 then [61] else if g = 1 then [33, 61] else [94, 61]
/-- What stands behind the {. -/
def bodyB : List Qu → List UInt8
  | [] => []
  | q :: r => q.n.toList ++ (sgB q.g ++ (q.v.toList ++ ((if r.isEmpty then [125] else [44]) ++ bodyB r)))
def textB (s : Se) : List UInt8 := s.n.toList ++ (if s.l.isEmpty then [] else 123 :: bodyB s.l)
/-- The parts are as told. -/
structure QOk (q : Qu) : Prop where
  n : wordB q.n.toList = true
  v : wordB q.v.toList = true
  g : q.g = 0 ∨ q.g = 1 ∨ q.g = 2
/-- A selector that may be. -/
structure MayQ (s : Se) : Prop where
  n : s.n.toList = [] ∨ wordB s.n.toList = true
  q : ∀ q ∈ s.l, QOk q
  few : s.l.length ≤ 8
/-- A series that may be. -/
structure MayS (s : Se) : Prop where
  n : wordB s.n.toList = true
  q : ∀ q ∈ s.l, QOk q ∧ q.g = 0
  few : s.l.length ≤ 8
  rise : s.l.Pairwise fun a b => Op.bytesLess a.n.toList b.n.toList = true
theorem MayS.sel {s : Se} (h : MayS s) : MayQ s := ⟨.inr h.n, fun q hq => (h.q q hq).1, h.few⟩
theorem span_cut {p : UInt8 → Bool} : ∀ {x y s t : List UInt8}, (∀ c ∈ x, p c = true) → (∀ c ∈ y, p c = true) → (∀ c, s.head? = some c → p c = false) → (∀ c, t.head? = some c → p c = false) → x ++ s = y ++ t → x = y ∧ s = t
  | [], [], _, _, _, _, _, _, h => ⟨rfl, h⟩
  | [], b :: y, s, t, _, hy, hs, _, h => by
    rw [List.nil_append] at h
    have h1 := hs b (by rw [h]; rfl)
    rw [hy b (List.mem_cons_self ..)] at h1
    cases h1
  | a :: x, [], s, t, hx, _, _, ht, h => by
    rw [List.nil_append] at h
    have h1 := ht a (by rw [← h]; rfl)
    rw [hx a (List.mem_cons_self ..)] at h1
    cases h1
  | a :: x, b :: y, s, t, hx, hy, hs, ht, h => by
    rw [List.cons_append, List.cons_append, List.cons.injEq] at h
    obtain ⟨e1, e2⟩ := span_cut (fun c hc => hx c (List.mem_cons_of_mem _ hc)) (fun c hc => hy c (List.mem_cons_of_mem _ hc)) hs ht h.2
    rw [h.1, e1, e2]
    exact ⟨rfl, rfl⟩
theorem word_letters {l : List UInt8} (h : wordB l = true) : ∀ c ∈ l, letterB c = true := by
  unfold wordB at h
  simp only [Bool.and_eq_true] at h
  exact List.all_eq_true.1 h.2
theorem word_some {l : List UInt8} (h : wordB l = true) : 1 ≤ l.length := by
  unfold wordB at h
  simp only [Bool.and_eq_true, decide_eq_true_eq] at h
  exact h.1.1
theorem word_head {l s : List UInt8} (h : wordB l = true) : ∀ c, (l ++ s).head? = some c → letterB c = true := fun c hc => by
  have h1 := word_some h
  rcases l with _ | ⟨a, l⟩
  · simp at h1
  · rw [List.cons_append, List.head?_cons] at hc
    injection hc with hc
    rw [← hc]
    exact word_letters h a (List.mem_cons_self ..)
theorem sg_head (g : Int) (s : List UInt8) : ∀ c, (sgB g ++ s).head? = some c → letterB c = false := fun c hc => by
  unfold sgB at hc
  split at hc
  · simp only [List.cons_append, List.head?_cons, Option.some.injEq] at hc; rw [← hc]; decide
  · split at hc <;> (simp only [List.cons_append, List.head?_cons, Option.some.injEq] at hc; rw [← hc]; decide)
theorem sg_signs (g : Int) : ∀ c ∈ sgB g, (!letterB c) = true := fun c hc => by
  unfold sgB at hc
  split at hc
  · rw [List.mem_singleton.1 hc]; decide
  · split at hc <;> (simp only [List.mem_cons, List.not_mem_nil, or_false] at hc; rcases hc with rfl | rfl <;> decide)
theorem sg_inj {a b : Int} (ha : a = 0 ∨ a = 1 ∨ a = 2) (hb : b = 0 ∨ b = 1 ∨ b = 2) (h : sgB a = sgB b) : a = b := by
  rcases ha with rfl | rfl | rfl <;> rcases hb with rfl | rfl | rfl <;> first | rfl | (exfalso; revert h; decide)
theorem end_head (s : List UInt8) (b : Bool) : ∀ c, ((if b = true then [125] else [44]) ++ s).head? = some c → letterB c = false := fun c hc => by
  split at hc <;> (simp only [List.cons_append, List.head?_cons, Option.some.injEq] at hc; rw [← hc]; decide)
theorem body_inj : ∀ {l m : List Qu}, (∀ q ∈ l, QOk q) → (∀ q ∈ m, QOk q) → bodyB l = bodyB m → l = m
  | [], [], _, _, _ => rfl
  | [], q :: m, _, hm, h => by
    have h1 := word_some (hm q (List.mem_cons_self ..)).n
    have h2 := congrArg List.length h
    simp only [bodyB, List.length_nil, List.length_append] at h2
    omega
  | q :: l, [], hl, _, h => by
    have h1 := word_some (hl q (List.mem_cons_self ..)).n
    have h2 := congrArg List.length h
    simp only [bodyB, List.length_nil, List.length_append] at h2
    omega
  | p :: l, q :: m, hl, hm, h => by
    have hp := hl p (List.mem_cons_self ..)
    have hq := hm q (List.mem_cons_self ..)
    simp only [bodyB] at h
    obtain ⟨e1, h⟩ := span_cut (word_letters hp.n) (word_letters hq.n) (sg_head _ _) (sg_head _ _) h
    obtain ⟨e2, h⟩ := span_cut (p := fun c => !letterB c) (sg_signs _) (sg_signs _) (fun c hc => by rw [word_head hp.v c hc]; rfl) (fun c hc => by rw [word_head hq.v c hc]; rfl) h
    obtain ⟨e3, h⟩ := span_cut (word_letters hp.v) (word_letters hq.v) (end_head _ _) (end_head _ _) h
    have e4 : bodyB l = bodyB m := by
      split at h <;> split at h <;> (simp only [List.cons_append, List.nil_append, List.cons.injEq] at h) <;> first | exact h.2 | (exfalso; revert h; exact fun h => absurd h.1 (by decide))
    have e5 := body_inj (fun q hq => hl q (List.mem_cons_of_mem _ hq)) (fun q hq => hm q (List.mem_cons_of_mem _ hq)) e4
    obtain ⟨n, g, v⟩ := p
    obtain ⟨n', g', v'⟩ := q
    have f1 : n = n' := str_inj e1
    have f2 : g = g' := sg_inj hp.g hq.g e2
    have f3 : v = v' := str_inj e3
    rw [f1, f2, f3, e5]
theorem name_letters {s : Se} (h : MayQ s) : ∀ c ∈ s.n.toList, letterB c = true := by
  rcases h.n with e | e
  · rw [e]
    exact fun c hc => (List.not_mem_nil hc).elim
  · exact word_letters e
theorem brace_head (b : Bool) (l : List UInt8) : ∀ c, (if b = true then [] else 123 :: l : List UInt8).head? = some c → letterB c = false := fun c hc => by
  split at hc
  · simp at hc
  · simp only [List.head?_cons, Option.some.injEq] at hc
    rw [← hc]
    decide
/-- Unlike ones have unlike texts. -/
theorem text_inj {s t : Se} (hs : MayQ s) (ht : MayQ t) (h : textB s = textB t) : s = t := by
  unfold textB at h
  obtain ⟨e1, h⟩ := span_cut (name_letters hs) (name_letters ht) (brace_head _ _) (brace_head _ _) h
  obtain ⟨n, l⟩ := s
  obtain ⟨n', l'⟩ := t
  have f1 : n = n' := str_inj e1
  simp only at h
  have f2 : l = l' := by
    rcases l with _ | ⟨p, l⟩
    · rcases l' with _ | ⟨q, m⟩
      · rfl
      · simp at h
    · rcases l' with _ | ⟨q, m⟩
      · simp at h
      · simp only [List.isEmpty_cons, Bool.false_eq_true, if_false, List.cons.injEq, true_and] at h
        exact body_inj hs.q ht.q h
  rw [f1, f2]
/-- A question is answered by yes. -/
def saysB (ls : List Qu) (q : Qu) : Bool :=
  if q.g = 0 then ls.any fun l => decide (l.n.toList = q.n.toList) && decide (l.v.toList = q.v.toList)
  else if q.g = 1 then !(ls.any fun l => decide (l.n.toList = q.n.toList) && decide (l.v.toList = q.v.toList))
  else if q.g = 2 then ls.any fun l => decide (l.n.toList = q.n.toList) && q.v.toList.isPrefixOf l.v.toList
  else false
def choosesB (q s : Se) : Bool := (decide (q.n.toList = []) || decide (q.n.toList = s.n.toList)) && q.l.all (saysB s.l)
theorem chooses_all (s : Se) : choosesB ⟨ByteArray.empty, []⟩ s = true := by
  have h : ByteArray.empty.toList = [] := by rw [ByteArray.toList_eq]; rfl
  unfold choosesB
  rw [h]
  rfl
end Go.Proofs.Ytckgpocfcanokaa
