/- Part 24 of the words that the laws share: StrL, DlRead. No condition of its own: each theorem says its own. -/
import Derived.Test.YtcicdbhffkpldaaPart3
import Derived.Test.YtcicdbhffkpldaaPart16

/- Bytes as a text, as a number. No program in sight, no condition. -/
namespace Go.Proofs.Ytcicdbhffkpldaa
open Go.RowKit

def strOf (l : List UInt8) : ByteArray := ⟨l.toArray⟩
theorem strOf_list (l : List UInt8) : (strOf l).toList = l := by rw [ByteArray.toList_eq]; rfl
theorem strOf_str (t : ByteArray) : strOf t.toList = t := str_inj (strOf_list _)
theorem strOf_size (l : List UInt8) : (strOf l).size = l.length := rfl
theorem bx_num (k n : Nat) (h : n < 256 ^ k) : numB (leB k n) = n := by
  induction k generalizing n with
  | zero => simp [leB, numB] at *; omega
  | succ k ih =>
    rw [leB, numB, ih _ (by rw [Nat.pow_succ] at h; omega), UInt8.toNat_ofNat']
    omega
theorem bx_le (l : List UInt8) : leB l.length (numB l) = l := by
  induction l with
  | nil => rfl
  | cons c r ih =>
    have hc := c.toNat_lt
    have e1 : (c.toNat + 256 * numB r) % 256 = c.toNat := by omega
    have e2 : (c.toNat + 256 * numB r) / 256 = numB r := by omega
    rw [List.length_cons, numB, leB, e1, e2, ih, UInt8.ofNat_toNat]
end Go.Proofs.Ytcicdbhffkpldaa

/- Reading the form of pieces, reckoned: what is laid is read as it was; what is read was laid. No program in sight, no condition. -/
namespace Go.Proofs.Ytcicdbhffkpldaa
open Go.RowKit

/-- A piece is read: it, its difference, what is left. -/
def pcR (s : ByteArray) (t d v : Int) (b : List UInt8) : Option (Pc × Int × List UInt8) :=
  if (getS b).2.2 ≠ 0 then none else
  let b1 := b.drop (getS b).2.1
  if (getS b1).2.2 ≠ 0 then none else
  let b2 := b1.drop (getS b1).2.1
  if (getS b2).2.2 ≠ 0 then none else
  let b3 := b2.drop (getS b2).2.1
  if b3.length < 2 then none else
  let d' := wr64 (d + zagN (getS b).1)
  some (⟨s, wr64 (t + d'), wr64 (v + zagN (getS b1).1), (getS b2).1, numB (b3.take 2)⟩, d', b3.drop 2)
def rowR (s : ByteArray) : Nat → Int → Int → Int → List UInt8 → Option (List Pc × List UInt8)
  | 0, _, _, _, b => some ([], b)
  | k + 1, t, d, v, b => match pcR s t d v b with
    | none => none
    | some (p, d', b') => match rowR s k p.t d' p.v b' with
      | none => none
      | some (ps, c) => some (p :: ps, c)
def runR (b : List UInt8) : Option ((ByteArray × List Pc) × List UInt8) :=
  if (getS b).2.2 ≠ 0 then none else
  let b1 := b.drop (getS b).2.1
  if b1.length < (getS b).1 then none else
  let b2 := b1.drop (getS b).1
  if (getS b2).2.2 ≠ 0 then none else
  match rowR (strOf (b1.take (getS b).1)) (getS b2).1 0 0 0 (b2.drop (getS b2).2.1) with
  | none => none
  | some (ps, c) => some ((strOf (b1.take (getS b).1), ps), c)
def runsR : Nat → List UInt8 → Option (List (ByteArray × List Pc) × List UInt8)
  | 0, b => some ([], b)
  | n + 1, b => match runR b with
    | none => none
    | some (r, b') => match runsR n b' with
      | none => none
      | some (R, c) => some (r :: R, c)
def formR (b : List UInt8) : Option (List (ByteArray × List Pc) × List UInt8) :=
  if (getS b).2.2 ≠ 0 then none else runsR (getS b).1 (b.drop (getS b).2.1)
/-- The pieces of what is read. -/
def allR (R : List (ByteArray × List Pc)) : List Pc := (R.map (·.2)).flatten
/-! What is laid is read. -/
theorem getS_laid {n : Nat} (h : n < 18446744073709551616) (x : List UInt8) : getS (sh n ++ x) = (n, (sh n).length, 0) := getS_sh h
theorem wr_back (a b : Int) : wr64 (a + wr64 (b - a)) = wr64 b := by
  unfold wr64
  rw [IntKind.wrap_i64, IntKind.wrap_i64, IntKind.wrap_i64]
  omega
theorem wr_on (a b : Int) : wr64 (wr64 (a + b) - a) = wr64 b := by
  unfold wr64
  rw [IntKind.wrap_i64, IntKind.wrap_i64, IntKind.wrap_i64]
  omega
theorem wr_in {a : Int} (h : -9223372036854775808 ≤ a ∧ a ≤ 9223372036854775807) : wr64 a = a := IntWalk.i64_in a h
theorem wr_wr (a : Int) : wr64 (wr64 a) = wr64 a := wr_in (wr64_in a)
theorem pcR_laid {p : Pc} (h : p.Ok) (a d v : Int) (x : List UInt8) :
    pcR p.s a d v (sh (zigN (wr64 (wr64 (p.t - a) - d))) ++ (sh (zigN (wr64 (p.v - v))) ++ (sh p.n ++ (leB 2 p.o ++ x)))) = some (p, wr64 (p.t - a), x) := by
  unfold pcR
  simp only [getS_laid (zig_lt (wr64_in _)), getS_laid h.n, List.drop_left, ne_eq, not_true_eq_false, if_false, zag_zig]
  have e2 : (leB 2 p.o).length = 2 := leB_length _ _
  have e3 : (leB 2 p.o ++ x).take 2 = leB 2 p.o := by rw [List.take_append_of_le_length (by omega), List.take_of_length_le (by omega)]
  have e4 : (leB 2 p.o ++ x).drop 2 = x := by
    conv => lhs; arg 1; rw [← e2]
    exact List.drop_left
  rw [if_neg (by rw [List.length_append, e2]; omega), e3, e4, numB_le2 h.o, wr_back, wr_wr, wr_back, wr_in (wf_i64 h.t), wr_back, wr_in (wf_i64 h.v)]
theorem rowR_laid {s : ByteArray} : ∀ (ps : List Pc) (a d v : Int) (x : List UInt8), (∀ p ∈ ps, p.Ok ∧ p.s = s) → rowR s ps.length a d v (pcsB a d v ps ++ x) = some (ps, x)
  | [], _, _, _, _, _ => rfl
  | p :: ps, a, d, v, x, h => by
    obtain ⟨h1, rfl⟩ := h p (List.mem_cons_self ..)
    have e : pcsB a d v (p :: ps) ++ x = sh (zigN (wr64 (wr64 (p.t - a) - d))) ++ (sh (zigN (wr64 (p.v - v))) ++ (sh p.n ++ (leB 2 p.o ++ (pcsB p.t (wr64 (p.t - a)) p.v ps ++ x)))) := by
      simp only [pcsB, List.append_assoc]
    have e2 := rowR_laid ps p.t (wr64 (p.t - a)) p.v x fun q hq => h q (List.mem_cons_of_mem _ hq)
    rw [List.length_cons, rowR, e, pcR_laid h1]
    simp only [e2]
theorem runR_laid {r : List Pc} (h : GoodRun r) (x : List UInt8) : ∃ s, runR (runB r ++ x) = some ((s, r), x) := by
  obtain ⟨p, ps, rfl, hp⟩ := h.some'
  have h1 := (h.ok p (List.mem_cons_self ..)).s
  unfold maxLen at h1
  have e : runB (p :: ps) ++ x = sh p.s.size ++ (p.s.toList ++ (sh (p :: ps).length ++ (pcsB 0 0 0 (p :: ps) ++ x))) := by simp only [runB, List.append_assoc]
  refine ⟨p.s, ?_⟩
  unfold runR
  simp only [e, getS_laid (show p.s.size < 18446744073709551616 by omega), List.drop_left, ne_eq, not_true_eq_false, if_false]
  have e1 : (p.s.toList ++ (sh (p :: ps).length ++ (pcsB 0 0 0 (p :: ps) ++ x))).take p.s.size = p.s.toList := by rw [← str_len, List.take_left]
  have e2 : (p.s.toList ++ (sh (p :: ps).length ++ (pcsB 0 0 0 (p :: ps) ++ x))).drop p.s.size = sh (p :: ps).length ++ (pcsB 0 0 0 (p :: ps) ++ x) := by rw [← str_len, List.drop_left]
  rw [if_neg (by rw [List.length_append, str_len]; omega), e1, e2, getS_laid h.len]
  simp only [List.drop_left, not_true_eq_false, if_false]
  rw [strOf_str, rowR_laid (s := p.s) (p :: ps) 0 0 0 x fun q hq => ⟨h.ok q hq, hp q hq⟩]
theorem runsR_laid : ∀ (R : List (List Pc)) (x : List UInt8), (∀ r ∈ R, GoodRun r) → ∃ R', runsR R.length ((R.map runB).flatten ++ x) = some (R', x) ∧ R'.map (·.2) = R
  | [], _, _ => ⟨[], rfl, rfl⟩
  | r :: R, x, h => by
    obtain ⟨s, h1⟩ := runR_laid (h r (List.mem_cons_self ..)) ((R.map runB).flatten ++ x)
    obtain ⟨R', h2, h3⟩ := runsR_laid R x fun q hq => h q (List.mem_cons_of_mem _ hq)
    refine ⟨(s, r) :: R', ?_, by rw [List.map_cons, h3]⟩
    rw [List.length_cons, runsR, List.map_cons, List.flatten_cons, List.append_assoc, h1]
    simp only [h2]
theorem formR_laid {l : List Pc} (hok : ∀ p ∈ l, p.Ok) (hl : l.length < 18446744073709551616) (x : List UInt8) : ∃ R, formR (formD l ++ x) = some (R, x) ∧ allR R = l ∧ R.map (·.2) = runs l := by
  have h1 := runs_len l
  obtain ⟨R, h2, h3⟩ := runsR_laid (runs l) x (runs_good hok hl)
  refine ⟨R, ?_, by unfold allR; rw [h3, runs_flatten], h3⟩
  unfold formR formD
  rw [List.append_assoc, getS_laid (by omega)]
  simp only [List.drop_left, ne_eq, not_true_eq_false, if_false]
  exact h2
/-! What is read was laid. -/
theorem getS_was {b : List UInt8} (h : (getS b).2.2 = 0) : b = sh (getS b).1 ++ b.drop (getS b).2.1 ∧ (getS b).1 < 18446744073709551616 := by
  obtain ⟨n, u, e, hs⟩ : ∃ n u e, getS b = (n, u, e) := ⟨_, _, _, rfl⟩
  rw [hs] at h ⊢
  simp only at h ⊢
  subst h
  obtain ⟨r, h1, h2, h3⟩ := getS_is hs
  refine ⟨?_, h3⟩
  conv => lhs; rw [h1]
  have e : b.drop u = r := by rw [h1, h2]; exact List.drop_left
  rw [e]
  rfl
theorem wf_of {z : Int} (h : -9223372036854775808 ≤ z ∧ z ≤ 9223372036854775807) : (Lit.int .i64 z).wf = true := by
  simp [Lit.wf, IntKind.min, IntKind.max, IntKind.signed, IntKind.bits]
  omega
theorem pcR_is {s : ByteArray} {a d v d' : Int} {b c : List UInt8} {p : Pc} (hs : s.size ≤ maxLen) (h : pcR s a d v b = some (p, d', c)) :
    b = sh (zigN (wr64 (wr64 (p.t - a) - d))) ++ (sh (zigN (wr64 (p.v - v))) ++ (sh p.n ++ (leB 2 p.o ++ c))) ∧ p.Ok ∧ p.s = s ∧ d' = wr64 (p.t - a) := by
  unfold pcR at h
  split at h
  · cases h
  rename_i h1
  dsimp only at h
  split at h
  · cases h
  rename_i h2
  split at h
  · cases h
  rename_i h3
  split at h
  · cases h
  rename_i h4
  obtain ⟨e1, g1⟩ := getS_was (Decidable.not_not.1 h1)
  obtain ⟨e2, g2⟩ := getS_was (Decidable.not_not.1 h2)
  obtain ⟨e3, g3⟩ := getS_was (Decidable.not_not.1 h3)
  obtain ⟨b1, hb1⟩ : ∃ x, x = b.drop (getS b).2.1 := ⟨_, rfl⟩
  rw [← hb1] at h h2 h3 h4 e1 e2 e3 g2 g3
  obtain ⟨b2, hb2⟩ : ∃ x, x = b1.drop (getS b1).2.1 := ⟨_, rfl⟩
  rw [← hb2] at h h3 h4 e2 e3 g3
  obtain ⟨b3, hb3⟩ : ∃ x, x = b2.drop (getS b2).2.1 := ⟨_, rfl⟩
  rw [← hb3] at h h4 e3
  simp only [Option.some.injEq, Prod.mk.injEq] at h
  obtain ⟨rfl, rfl, rfl⟩ := h
  have hd := wr64_in (d + zagN (getS b).1)
  have k1 : wr64 (wr64 (a + wr64 (d + zagN (getS b).1)) - a) = wr64 (d + zagN (getS b).1) := by rw [wr_on, wr_wr]
  have k2 : wr64 (wr64 (d + zagN (getS b).1) - d) = zagN (getS b).1 := by rw [wr_on, wr_in (zag_in g1)]
  have k3 : wr64 (wr64 (v + zagN (getS b1).1) - v) = zagN (getS b1).1 := by rw [wr_on, wr_in (zag_in g2)]
  have k4 : leB 2 (numB (b3.take 2)) = b3.take 2 := by
    have h5 : (b3.take 2).length = 2 := by rw [List.length_take]; omega
    have h6 := bx_le (b3.take 2)
    rw [h5] at h6
    exact h6
  refine ⟨?_, ⟨hs, wf_of (wr64_in _), wf_of (wr64_in _), g3, ?_⟩, rfl, k1.symm⟩
  · show b = sh (zigN (wr64 (wr64 (wr64 (a + wr64 (d + zagN (getS b).1)) - a) - d))) ++ (sh (zigN (wr64 (wr64 (v + zagN (getS b1).1) - v))) ++ (sh (getS b2).1 ++ (leB 2 (numB (b3.take 2)) ++ b3.drop 2)))
    rw [k1, k2, k3, zig_zag, zig_zag, k4, List.take_append_drop, ← e3, ← e2, ← e1]
  · have h5 : (b3.take 2).length = 2 := by rw [List.length_take]; omega
    show numB (b3.take 2) < 65536
    match b3.take 2, h5 with
    | [x, y], _ =>
      have := x.toNat_lt
      have := y.toNat_lt
      simp only [numB]
      omega
theorem rowR_is {s : ByteArray} (hs : s.size ≤ maxLen) : ∀ (k : Nat) (a d v : Int) (b c : List UInt8) (ps : List Pc), rowR s k a d v b = some (ps, c) → b = pcsB a d v ps ++ c ∧ ps.length = k ∧ ∀ p ∈ ps, p.Ok ∧ p.s = s
  | 0, a, d, v, b, c, ps, h => by
    rw [rowR] at h
    injection h with h
    injection h with h1 h2
    subst h1 h2
    exact ⟨rfl, rfl, fun p hp => by cases hp⟩
  | k + 1, a, d, v, b, c, ps, h => by
    rw [rowR] at h
    split at h
    · cases h
    rename_i p d' b' h1
    split at h
    · cases h
    rename_i qs c' h2
    injection h with h
    injection h with h3 h4
    subst h3 h4
    obtain ⟨e1, o1, s1, e2⟩ := pcR_is hs h1
    obtain ⟨e3, e4, o2⟩ := rowR_is hs k _ _ _ _ _ _ h2
    refine ⟨?_, by rw [List.length_cons, e4], fun q hq => ?_⟩
    · rw [e1, e3, e2]
      simp only [pcsB, List.append_assoc]
    · rcases List.mem_cons.1 hq with e | hq
      · rw [e]; exact ⟨o1, s1⟩
      · exact o2 q hq
/-- A row as it may be read: perhaps of none. -/
def runP (r : ByteArray × List Pc) : List UInt8 := sh r.1.size ++ (r.1.toList ++ (sh r.2.length ++ pcsB 0 0 0 r.2))
theorem runP_run {r : ByteArray × List Pc} (h : r.2 ≠ []) (hs : ∀ p ∈ r.2, p.s = r.1) : runP r = runB r.2 := by
  obtain ⟨s, ps⟩ := r
  cases ps with
  | nil => exact absurd rfl h
  | cons p ps =>
    have e := hs p (List.mem_cons_self ..)
    simp only at e
    subst e
    rfl
theorem runR_is {b c : List UInt8} {r : ByteArray × List Pc} (hb : b.length ≤ 100000) (h : runR b = some (r, c)) : b = runP r ++ c ∧ ∀ p ∈ r.2, p.Ok ∧ p.s = r.1 := by
  unfold runR at h
  split at h
  · cases h
  rename_i h1
  dsimp only at h
  split at h
  · cases h
  rename_i h2
  split at h
  · cases h
  rename_i h3
  split at h
  · cases h
  rename_i ps c' h4
  injection h with h
  injection h with h5 h6
  subst h5 h6
  obtain ⟨e1, g1⟩ := getS_was (Decidable.not_not.1 h1)
  obtain ⟨e2, g2⟩ := getS_was (Decidable.not_not.1 h3)
  obtain ⟨b1, hb1⟩ : ∃ x, x = b.drop (getS b).2.1 := ⟨_, rfl⟩
  rw [← hb1] at h2 h3 h4 e1 e2 g2 ⊢
  obtain ⟨n, hn⟩ : ∃ n, n = (getS b).1 := ⟨_, rfl⟩
  rw [← hn] at h2 h3 h4 e1 e2 g1 g2 ⊢
  have hl1 : b1.length ≤ b.length := by rw [hb1, List.length_drop]; omega
  have hz : (strOf (b1.take n)).size = n := by rw [strOf_size, List.length_take]; omega
  obtain ⟨e3, e4, o⟩ := rowR_is (by rw [hz]; unfold maxLen; omega) _ _ _ _ _ _ _ h4
  refine ⟨?_, o⟩
  show b = sh (strOf (b1.take n)).size ++ ((strOf (b1.take n)).toList ++ (sh ps.length ++ pcsB 0 0 0 ps)) ++ c'
  rw [hz, strOf_list, e4, List.append_assoc, List.append_assoc, List.append_assoc, ← e3, ← e2, List.take_append_drop, ← e1]
theorem runsR_is : ∀ (n : Nat) (b c : List UInt8) (R : List (ByteArray × List Pc)), b.length ≤ 100000 → runsR n b = some (R, c) → b = (R.map runP).flatten ++ c ∧ R.length = n ∧ ∀ r ∈ R, ∀ p ∈ r.2, p.Ok ∧ p.s = r.1
  | 0, b, c, R, _, h => by
    rw [runsR] at h
    injection h with h
    injection h with h1 h2
    subst h1 h2
    exact ⟨rfl, rfl, fun p hp => by cases hp⟩
  | n + 1, b, c, R, hb, h => by
    rw [runsR] at h
    split at h
    · cases h
    rename_i r b' h1
    split at h
    · cases h
    rename_i R' c' h2
    injection h with h
    injection h with h3 h4
    subst h3 h4
    obtain ⟨e1, o1⟩ := runR_is hb h1
    have hl : b'.length ≤ b.length := by
      have := congrArg List.length e1
      rw [List.length_append] at this
      omega
    obtain ⟨e3, e4, o2⟩ := runsR_is n _ _ _ (by omega) h2
    refine ⟨?_, by rw [List.length_cons, e4], fun q hq => ?_⟩
    · rw [e1, e3, List.map_cons, List.flatten_cons, List.append_assoc]
    · rcases List.mem_cons.1 hq with e | hq
      · rw [e]; exact o1
      · exact o2 q hq
theorem formR_is {b c : List UInt8} {R : List (ByteArray × List Pc)} (hb : b.length ≤ 100000) (h : formR b = some (R, c)) : b = sh R.length ++ ((R.map runP).flatten ++ c) ∧ ∀ r ∈ R, ∀ p ∈ r.2, p.Ok ∧ p.s = r.1 := by
  unfold formR at h
  split at h
  · cases h
  rename_i h1
  obtain ⟨e1, g1⟩ := getS_was (Decidable.not_not.1 h1)
  obtain ⟨e2, e3, o⟩ := runsR_is _ _ _ _ (by rw [List.length_drop]; omega) h
  refine ⟨?_, o⟩
  rw [e3, ← e2, ← e1]
theorem allR_ok {R : List (ByteArray × List Pc)} (h : ∀ r ∈ R, ∀ p ∈ r.2, p.Ok ∧ p.s = r.1) : ∀ p ∈ allR R, p.Ok := fun p hp => by
  obtain ⟨l, hl, hp⟩ := List.mem_flatten.1 hp
  obtain ⟨r, hr, rfl⟩ := List.mem_map.1 hl
  exact (h r hr p hp).1
/-! What Read answers, where it lays what it has read once more. -/
/-- The form within what is laid. -/
def inD (b : List UInt8) : List UInt8 := (b.drop 2).take (numB (b.take 2))
theorem laid_inD {m : List Pc} (h : MayLay m) : inD (layD m) = formD m := by
  have h2 := h.fits
  have h3 := h.room
  have e2 : (leB 2 (formD m).length).length = 2 := leB_length _ _
  unfold inD layD
  have h4 : (leB 2 (formD m).length ++ (formD m ++ List.replicate (roomD m - 2 - (formD m).length) 0)).take 2 = leB 2 (formD m).length := by rw [List.take_append_of_le_length (by omega), List.take_of_length_le (by omega)]
  have h5 : (leB 2 (formD m).length ++ (formD m ++ List.replicate (roomD m - 2 - (formD m).length) 0)).drop 2 = formD m ++ List.replicate (roomD m - 2 - (formD m).length) 0 := by
    conv => lhs; arg 1; rw [← e2]
    exact List.drop_left
  rw [h4, h5, numB_le2 (by omega), List.take_left]
theorem laid_read {m : List Pc} {b : List UInt8} (h : MayLay m) (hok : ∀ p ∈ m, p.Ok) (hb : layD m = b) : ∃ R, formR (inD b) = some (R, []) ∧ allR R = m ∧ R.map (·.2) = runs m := by
  have h1 := h.few
  obtain ⟨R, e1, e2, e3⟩ := formR_laid hok (by omega) []
  rw [List.append_nil] at e1
  exact ⟨R, by rw [← hb, laid_inD h]; exact e1, e2, e3⟩
theorem readAns_none {b : List UInt8} (hs : ¬ shortD b) (h : formR (inD b) = none) : ReadAns b [] 4 :=
  .inr (.inr ⟨rfl, rfl, hs, fun ⟨m, h1, h2, h3⟩ => by
    obtain ⟨R, e, _⟩ := laid_read h2 h1 h3
    rw [h] at e
    cases e⟩)
theorem readAns_yes {b c : List UInt8} {R : List (ByteArray × List Pc)} (_ : formR (inD b) = some (R, c)) (hm : MayLay (allR R)) (hl : layD (allR R) = b) : ReadAns b (allR R) 0 := .inl ⟨rfl, hm, hl⟩
theorem readAns_no {b c : List UInt8} {R : List (ByteArray × List Pc)} (hs : ¬ shortD b) (h : formR (inD b) = some (R, c)) (hn : ¬ (MayLay (allR R) ∧ layD (allR R) = b)) : ReadAns b [] 4 :=
  .inr (.inr ⟨rfl, rfl, hs, fun ⟨m, h1, h2, h3⟩ => by
    obtain ⟨R', e, e2, _⟩ := laid_read h2 h1 h3
    rw [h] at e
    injection e with e
    injection e with e3 e4
    subst e3
    rw [e2] at hn
    exact hn ⟨h2, h3⟩⟩)
end Go.Proofs.Ytcicdbhffkpldaa
