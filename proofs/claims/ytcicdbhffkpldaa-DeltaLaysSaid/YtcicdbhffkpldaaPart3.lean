/- Part 3 of the words that the laws share: DlSpec, DlLay, DlAns, DlEx, ZagN. No condition of its own: each theorem says its own. -/
import Derived.Test.YtcicdbhffkpldaaPart1
import Derived.Test.YtcicdbhffkpldaaPart2
import Derived.IntWalk

/- Pieces as bytes, reckoned: their form, their room, which may be laid; no two lists have one form. No program in sight, no condition. -/
namespace Go.Proofs.Ytcicdbhffkpldaa
open Go.RowKit

def wr64 (z : Int) : Int := IntKind.i64.wrap z
theorem wr64_in (z : Int) : -9223372036854775808 ≤ wr64 z ∧ wr64 z ≤ 9223372036854775807 := by
  unfold wr64
  rw [IntKind.wrap_i64]
  omega
theorem wr64_sub {a b c : Int} (ha : -9223372036854775808 ≤ a ∧ a ≤ 9223372036854775807) (hb : -9223372036854775808 ≤ b ∧ b ≤ 9223372036854775807) (h : wr64 (a - c) = wr64 (b - c)) : a = b := by
  unfold wr64 at h
  rw [IntKind.wrap_i64, IntKind.wrap_i64] at h
  omega
def zigN (z : Int) : Nat := if 0 ≤ z then (2 * z).toNat else (-2 * z - 1).toNat
theorem zig_inj {a b : Int} (h : zigN a = zigN b) : a = b := by
  unfold zigN at h
  split at h <;> split at h <;> omega
theorem zig_lt {z : Int} (h : -9223372036854775808 ≤ z ∧ z ≤ 9223372036854775807) : zigN z < 18446744073709551616 := by
  unfold zigN
  split <;> omega
theorem wf_i64 {z : Int} (h : (Lit.int .i64 z).wf = true) : -9223372036854775808 ≤ z ∧ z ≤ 9223372036854775807 := by
  simp [Lit.wf, IntKind.min, IntKind.max, IntKind.signed, IntKind.bits] at h
  omega
/-- The short form. -/
def sh (n : Nat) : List UInt8 := shortB 9 n
theorem sh_cut {n m : Nat} {x y : List UInt8} (hn : n < 18446744073709551616) (hm : m < 18446744073709551616) (h : sh n ++ x = sh m ++ y) : n = m ∧ x = y :=
  shortB_cut (f := 9) (by omega) (by omega) h
theorem sh_len (n : Nat) : (sh n).length ≤ 10 := (shortB_len 9 n).2
theorem sh_len2 {n : Nat} (h : n < 16384) : (sh n).length ≤ 2 := by
  unfold sh
  rw [shortB]
  split
  · simp
  · rw [shortB, if_pos (by omega)]
    simp
/-- Pieces of one series, one behind the other. -/
def pcsB : Int → Int → Int → List Pc → List UInt8
  | _, _, _, [] => []
  | a, d, v, p :: ps => sh (zigN (wr64 (wr64 (p.t - a) - d))) ++ (sh (zigN (wr64 (p.v - v))) ++ (sh p.n ++ (leB 2 p.o ++ pcsB p.t (wr64 (p.t - a)) p.v ps)))
theorem pcsB_len : ∀ (a d v : Int) (ps : List Pc), (pcsB a d v ps).length ≤ 32 * ps.length
  | _, _, _, [] => by simp [pcsB]
  | a, d, v, p :: ps => by
    have h1 := sh_len (zigN (wr64 (wr64 (p.t - a) - d)))
    have h2 := sh_len (zigN (wr64 (p.v - v)))
    have h3 := sh_len p.n
    have h4 := pcsB_len p.t (wr64 (p.t - a)) p.v ps
    simp only [pcsB, List.length_append, leB_length, List.length_cons]
    omega
theorem leB2_cut {a b : Nat} {x y : List UInt8} (ha : a < 65536) (hb : b < 65536) (h : leB 2 a ++ x = leB 2 b ++ y) : a = b ∧ x = y := by
  simp only [leB, List.cons_append, List.nil_append, List.cons.injEq] at h
  obtain ⟨h1, h2, h3⟩ := h
  have h4 := congrArg UInt8.toNat h1
  have h5 := congrArg UInt8.toNat h2
  rw [UInt8.toNat_ofNat', UInt8.toNat_ofNat'] at h4 h5
  exact ⟨by omega, h3⟩
theorem pcs_cut {s : ByteArray} : ∀ {a d v : Int} {r1 r2 : List Pc} {x y : List UInt8}, r1.length = r2.length → (∀ p ∈ r1, p.Ok ∧ p.s = s) → (∀ p ∈ r2, p.Ok ∧ p.s = s) → pcsB a d v r1 ++ x = pcsB a d v r2 ++ y → r1 = r2 ∧ x = y
  | _, _, _, [], [], _, _, _, _, _, h => ⟨rfl, h⟩
  | _, _, _, [], _ :: _, _, _, hl, _, _, _ => by simp at hl
  | _, _, _, _ :: _, [], _, _, hl, _, _, _ => by simp at hl
  | a, d, v, p :: r1, q :: r2, x, y, hl, h1, h2, h => by
    obtain ⟨hp, hps⟩ := h1 p (List.mem_cons_self ..)
    obtain ⟨hq, hqs⟩ := h2 q (List.mem_cons_self ..)
    simp only [pcsB, List.append_assoc] at h
    obtain ⟨e1, g1⟩ := sh_cut (zig_lt (wr64_in _)) (zig_lt (wr64_in _)) h
    obtain ⟨e2, g2⟩ := sh_cut (zig_lt (wr64_in _)) (zig_lt (wr64_in _)) g1
    obtain ⟨e3, g3⟩ := sh_cut hp.n hq.n g2
    obtain ⟨e4, g4⟩ := leB2_cut hp.o hq.o g3
    clear h g1 g2 g3
    have e5 : p.t = q.t := wr64_sub (wf_i64 hp.t) (wf_i64 hq.t) (wr64_sub (wr64_in _) (wr64_in _) (zig_inj e1))
    have e6 : p.v = q.v := wr64_sub (wf_i64 hp.v) (wf_i64 hq.v) (zig_inj e2)
    obtain ⟨s1, t1, v1, n1, o1⟩ := p
    obtain ⟨s2, t2, v2, n2, o2⟩ := q
    simp only at e3 e4 e5 e6 hps hqs g4
    subst e3 e4 e5 e6 hps hqs
    obtain ⟨e7, e8⟩ := pcs_cut (by simpa using hl) (fun p hp => h1 p (List.mem_cons_of_mem _ hp)) (fun p hp => h2 p (List.mem_cons_of_mem _ hp)) g4
    rw [e7]
    exact ⟨rfl, e8⟩
/-- Of one series with the one ahead? -/
def likeS (p q : Pc) : Bool := decide (q.s.toList = p.s.toList)
theorem likeS_iff {p q : Pc} : likeS p q = true ↔ q.s = p.s := by
  unfold likeS
  rw [decide_eq_true_eq]
  exact ⟨str_inj, fun h => by rw [h]⟩
/-- The rows of one series. -/
def runs : List Pc → List (List Pc)
  | [] => []
  | p :: ps => (p :: ps.takeWhile (likeS p)) :: runs (ps.dropWhile (likeS p))
termination_by l => l.length
decreasing_by
  have := (List.dropWhile_suffix (l := ps) (likeS p)).length_le
  simp
  omega
theorem runs_flatten (l : List Pc) : (runs l).flatten = l := by
  induction l using runs.induct with
  | case1 => rw [runs]; rfl
  | case2 p ps ih => rw [runs, List.flatten_cons, ih, List.cons_append, List.takeWhile_append_dropWhile]
/-- A row of one series. -/
structure GoodRun (r : List Pc) : Prop where
  some' : ∃ p ps, r = p :: ps ∧ ∀ q ∈ r, q.s = p.s
  ok : ∀ p ∈ r, p.Ok
  len : r.length < 18446744073709551616
theorem runs_good {l : List Pc} (hok : ∀ p ∈ l, p.Ok) (hl : l.length < 18446744073709551616) : ∀ r ∈ runs l, GoodRun r := by
  induction l using runs.induct with
  | case1 => rw [runs]; intro r hr; cases hr
  | case2 p ps ih =>
    have h1 := (List.dropWhile_suffix (l := ps) (likeS p))
    have h2 := (List.takeWhile_prefix (l := ps) (likeS p))
    have h3 := h1.length_le
    have h4 := h2.length_le
    simp only [List.length_cons] at hl
    rw [runs]
    intro r hr
    rcases List.mem_cons.1 hr with e | hr
    · subst e
      refine ⟨⟨p, _, rfl, fun q hq => ?_⟩, fun q hq => ?_, ?_⟩
      · rcases List.mem_cons.1 hq with e | hq
        · rw [e]
        · exact likeS_iff.1 (List.all_eq_true.1 List.all_takeWhile q hq)
      · rcases List.mem_cons.1 hq with e | hq
        · rw [e]
          exact hok p (List.mem_cons_self ..)
        · exact hok q (List.mem_cons_of_mem _ (h2.subset hq))
      · simp only [List.length_cons]
        omega
    · exact ih (fun q hq => hok q (List.mem_cons_of_mem _ (h1.subset hq))) (by omega) r hr
def runB : List Pc → List UInt8
  | [] => []
  | p :: ps => sh p.s.size ++ (p.s.toList ++ (sh (p :: ps).length ++ pcsB 0 0 0 (p :: ps)))
theorem str_len (s : ByteArray) : s.toList.length = s.size := by
  rw [ByteArray.toList_eq, Array.length_toList]
  rfl
theorem run_cut {r1 r2 : List Pc} {x y : List UInt8} (h1 : GoodRun r1) (h2 : GoodRun r2) (h : runB r1 ++ x = runB r2 ++ y) : r1 = r2 ∧ x = y := by
  obtain ⟨p, ps, rfl, hp⟩ := h1.some'
  obtain ⟨q, qs, rfl, hq⟩ := h2.some'
  have ps' := (h1.ok p (List.mem_cons_self ..)).s
  have qs' := (h2.ok q (List.mem_cons_self ..)).s
  unfold maxLen at ps' qs'
  simp only [runB, List.append_assoc] at h
  obtain ⟨e1, h⟩ := sh_cut (by omega) (by omega) h
  obtain ⟨e2, h⟩ := List.append_inj h (by rw [str_len, str_len, e1])
  have e2 := str_inj e2
  obtain ⟨e3, h⟩ := sh_cut h1.len h2.len h
  exact pcs_cut (s := p.s) e3 (fun a ha => ⟨h1.ok a ha, hp a ha⟩) (fun a ha => ⟨h2.ok a ha, (hq a ha).trans e2.symm⟩) h
theorem runs_cut : ∀ {R1 R2 : List (List Pc)} {x y : List UInt8}, R1.length = R2.length → (∀ r ∈ R1, GoodRun r) → (∀ r ∈ R2, GoodRun r) → (R1.map runB).flatten ++ x = (R2.map runB).flatten ++ y → R1 = R2 ∧ x = y
  | [], [], _, _, _, _, _, h => ⟨rfl, h⟩
  | [], _ :: _, _, _, hl, _, _, _ => by simp at hl
  | _ :: _, [], _, _, hl, _, _, _ => by simp at hl
  | r :: R1, q :: R2, x, y, hl, h1, h2, h => by
    simp only [List.map_cons, List.flatten_cons, List.append_assoc] at h
    obtain ⟨e1, h⟩ := run_cut (h1 r (List.mem_cons_self ..)) (h2 q (List.mem_cons_self ..)) h
    obtain ⟨e2, e3⟩ := runs_cut (by simpa using hl) (fun p hp => h1 p (List.mem_cons_of_mem _ hp)) (fun p hp => h2 p (List.mem_cons_of_mem _ hp)) h
    rw [e1, e2]
    exact ⟨rfl, e3⟩
/-- The form. -/
def formD (l : List Pc) : List UInt8 := sh (runs l).length ++ ((runs l).map runB).flatten
theorem runs_len (l : List Pc) : (runs l).length ≤ l.length := by
  induction l using runs.induct with
  | case1 => rw [runs]; exact Nat.le_refl _
  | case2 p ps ih =>
    have h3 := (List.dropWhile_suffix (l := ps) (likeS p)).length_le
    rw [runs, List.length_cons, List.length_cons]
    omega
theorem form_cut {l m : List Pc} {x y : List UInt8} (hl : ∀ p ∈ l, p.Ok) (hm : ∀ p ∈ m, p.Ok) (nl : l.length < 18446744073709551616) (nm : m.length < 18446744073709551616) (h : formD l ++ x = formD m ++ y) : l = m ∧ x = y := by
  unfold formD at h
  rw [List.append_assoc, List.append_assoc] at h
  have h1 := runs_len l
  have h2 := runs_len m
  obtain ⟨e1, h⟩ := sh_cut (by omega) (by omega) h
  obtain ⟨e2, e3⟩ := runs_cut e1 (runs_good hl nl) (runs_good hm nm) h
  exact ⟨by rw [← runs_flatten l, ← runs_flatten m, e2], e3⟩
end Go.Proofs.Ytcicdbhffkpldaa

/- Pieces as laid, reckoned: as long as their room; no two lists are laid alike; as long whatever the values. No program in sight, no condition. -/
namespace Go.Proofs.Ytcicdbhffkpldaa
open Go.RowKit

def likeO (o : Option ByteArray) (p : Pc) : Bool := match o with
  | none => false
  | some s => decide (p.s.toList = s.toList)
/-- The room behind a piece of this series. -/
def roomR : Option ByteArray → List Pc → Nat
  | _, [] => 0
  | o, p :: ps => (if likeO o p then 0 else 6 + p.s.size) + 32 + roomR (some p.s) ps
def roomD (l : List Pc) : Nat := 4 + roomR none l
def runRoom : List Pc → Nat
  | [] => 0
  | p :: ps => 6 + p.s.size + 32 * (p :: ps).length
theorem roomR_some (p : Pc) : ∀ ps : List Pc, roomR (some p.s) ps = 32 * (ps.takeWhile (likeS p)).length + roomR none (ps.dropWhile (likeS p))
  | [] => by simp [roomR]
  | q :: qs => by
    by_cases e : likeS p q = true
    · have e2 := likeS_iff.1 e
      have h1 : likeO (some p.s) q = true := e
      rw [List.takeWhile_cons_of_pos e, List.dropWhile_cons_of_pos e, roomR, if_pos h1, e2, roomR_some p qs, List.length_cons]
      omega
    · have h1 : ¬ likeO (some p.s) q = true := e
      rw [List.takeWhile_cons_of_neg e, List.dropWhile_cons_of_neg e, roomR, if_neg h1, roomR, if_neg (by simp [likeO])]
      simp
theorem room_runs (l : List Pc) : roomR none l = ((runs l).map runRoom).sum := by
  induction l using runs.induct with
  | case1 => rw [runs]; rfl
  | case2 p ps ih =>
    rw [runs, List.map_cons, List.sum_cons, ← ih, roomR, if_neg (by simp [likeO]), roomR_some, runRoom, List.length_cons]
    omega
theorem runs_mem (l : List Pc) : ∀ r ∈ runs l, r.length ≤ l.length ∧ ∃ p ps, r = p :: ps ∧ p ∈ l := by
  induction l using runs.induct with
  | case1 => rw [runs]; intro r hr; cases hr
  | case2 p ps ih =>
    have h1 := (List.dropWhile_suffix (l := ps) (likeS p))
    have h4 := (List.takeWhile_prefix (l := ps) (likeS p)).length_le
    have h3 := h1.length_le
    rw [runs]
    intro r hr
    rcases List.mem_cons.1 hr with e | hr
    · subst e
      exact ⟨by simp only [List.length_cons]; omega, p, _, rfl, List.mem_cons_self ..⟩
    · obtain ⟨h5, q, qs, h6, h7⟩ := ih r hr
      exact ⟨by simp only [List.length_cons]; omega, q, qs, h6, List.mem_cons_of_mem _ (h1.subset h7)⟩
theorem runs_room : ∀ R : List (List Pc), (∀ r ∈ R, (runB r).length ≤ runRoom r) → ((R.map runB).flatten).length ≤ (R.map runRoom).sum
  | [], _ => Nat.le_refl _
  | r :: R, h => by
    have h1 := h r (List.mem_cons_self ..)
    have h2 := runs_room R fun q hq => h q (List.mem_cons_of_mem _ hq)
    simp only [List.map_cons, List.flatten_cons, List.length_append, List.sum_cons]
    omega
theorem form_room {l : List Pc} (hs : ∀ p ∈ l, p.s.size ≤ 200) (hl : l.length ≤ 256) : (formD l).length + 2 ≤ roomD l := by
  have h1 := runs_room (runs l) fun r hr => by
    obtain ⟨h2, p, ps, rfl, h3⟩ := runs_mem l r hr
    have h4 := hs p h3
    have h5 := sh_len2 (n := p.s.size) (by omega)
    have h6 := sh_len2 (n := (p :: ps).length) (by omega)
    have h7 := pcsB_len 0 0 0 (p :: ps)
    rw [runB, runRoom]
    simp only [List.length_append, str_len]
    omega
  have h8 := runs_len l
  have h9 := sh_len2 (n := (runs l).length) (by omega)
  unfold formD roomD
  rw [room_runs, List.length_append]
  omega
/-- They may be laid. -/
structure MayLay (l : List Pc) : Prop where
  may : ∀ p ∈ l, p.may
  sorted : l.Pairwise keyLt
  few : l.length ≤ 256
  room : roomD l ≤ 4096
open Classical in
noncomputable def checkD (l : List Pc) : Nat := if 256 < l.length ∨ 4096 < roomD l then 3 else if (∀ p ∈ l, p.may) ∧ l.Pairwise keyLt then 0 else 1
theorem check_ok {l : List Pc} : checkD l = 0 ↔ MayLay l := by
  unfold checkD
  split
  · next h =>
    exact ⟨fun e => by omega, fun m => by have := m.few; have := m.room; omega⟩
  · next h =>
    split
    · next h2 => exact ⟨fun _ => ⟨h2.1, h2.2, by omega, by omega⟩, fun _ => rfl⟩
    · next h2 => exact ⟨fun e => by omega, fun m => absurd ⟨m.may, m.sorted⟩ h2⟩
def layD (l : List Pc) : List UInt8 := leB 2 (formD l).length ++ (formD l ++ List.replicate (roomD l - 2 - (formD l).length) 0)
theorem MayLay.fits {l : List Pc} (h : MayLay l) : (formD l).length + 2 ≤ roomD l := form_room (fun p hp => (h.may p hp).2) h.few
theorem lay_len {l : List Pc} (h : MayLay l) : (layD l).length = roomD l := by
  have h1 := h.fits
  unfold layD
  simp only [List.length_append, leB_length, List.length_replicate]
  omega
theorem lay_inj {l m : List Pc} (hl : MayLay l) (hm : MayLay m) (ol : ∀ p ∈ l, p.Ok) (om : ∀ p ∈ m, p.Ok) (h : layD l = layD m) : l = m := by
  have h1 := hl.fits
  have h2 := hm.fits
  have h3 := hl.room
  have h4 := hm.room
  have h5 := hl.few
  have h6 := hm.few
  unfold layD at h
  obtain ⟨_, h⟩ := leB2_cut (by omega) (by omega) h
  exact (form_cut ol om (by omega) (by omega) h).1
/-- A piece but for its value. -/
def butV (p : Pc) : ByteArray × Int × Nat × Nat := (p.s, p.t, p.n, p.o)
def SameBut (l m : List Pc) : Prop := l.map butV = m.map butV
theorem room_even : ∀ {o : Option ByteArray} {l m : List Pc}, SameBut l m → roomR o l = roomR o m
  | _, [], [], _ => rfl
  | _, [], _ :: _, h => by simp [SameBut] at h
  | _, _ :: _, [], h => by simp [SameBut] at h
  | o, p :: l, q :: m, h => by
    unfold SameBut at h
    rw [List.map_cons, List.map_cons, List.cons.injEq] at h
    have e : p.s = q.s := congrArg (·.1) h.1
    have e2 : likeO o p = likeO o q := by unfold likeO; rw [e]
    rw [roomR, roomR, e2, e, room_even (show SameBut l m from h.2)]
theorem may_even {l m : List Pc} (h : SameBut l m) (hl : MayLay l) : MayLay m := by
  have e1 : l.length = m.length := by
    have := congrArg List.length h
    simpa using this
  refine ⟨fun q hq => ?_, ?_, by have := hl.few; omega, by have := hl.room; unfold roomD at this ⊢; rw [← room_even h]; exact this⟩
  · have h1 : butV q ∈ l.map butV := by rw [h]; exact List.mem_map_of_mem hq
    obtain ⟨p, hp, e⟩ := List.mem_map.1 h1
    have e : p.s = q.s := congrArg (·.1) e
    have h2 := hl.may p hp
    unfold Pc.may at h2 ⊢
    rw [← e]
    exact h2
  · have h1 : (l.map butV).Pairwise fun a b => Op.bytesLess a.1.toList b.1.toList = true ∨ (a.1 = b.1 ∧ a.2.1 < b.2.1) := List.pairwise_map.2 hl.sorted
    rw [h] at h1
    have h2 := List.pairwise_map.1 h1
    exact h2
theorem SameBut.symm {l m : List Pc} (h : SameBut l m) : SameBut m l := Eq.symm h
theorem check_even {l m : List Pc} (h : SameBut l m) : checkD l = checkD m := by
  have e1 : l.length = m.length := by
    have := congrArg List.length h
    simpa using this
  have e2 : roomD l = roomD m := by unfold roomD; rw [room_even h]
  unfold checkD
  rw [e1, e2]
  split
  · rfl
  · next h3 =>
    have h4 : ((∀ p ∈ l, p.may) ∧ l.Pairwise keyLt) ↔ ((∀ p ∈ m, p.may) ∧ m.Pairwise keyLt) := by
      constructor
      · intro ⟨a, b⟩
        have := may_even h ⟨a, b, by omega, by omega⟩
        exact ⟨this.may, this.sorted⟩
      · intro ⟨a, b⟩
        have := may_even h.symm ⟨a, b, by omega, by omega⟩
        exact ⟨this.may, this.sorted⟩
    by_cases c : (∀ p ∈ l, p.may) ∧ l.Pairwise keyLt
    · rw [if_pos c, if_pos (h4.1 c)]
    · rw [if_neg c, if_neg fun d => c (h4.2 d)]
theorem even_len {l m : List Pc} (h : SameBut l m) (hl : MayLay l) : (layD l).length = (layD m).length := by
  rw [lay_len hl, lay_len (may_even h hl)]
  unfold roomD
  rw [room_even h]
end Go.Proofs.Ytcicdbhffkpldaa

/- What reading makes of bytes: pieces, or an error. No program in sight, no condition. -/
namespace Go.Proofs.Ytcicdbhffkpldaa
open Go.RowKit

def shortD (b : List UInt8) : Prop := b.length < 2 ∨ b.length - 2 < numB (b.take 2)
/-- What is read. -/
def ReadAns (b : List UInt8) (m : List Pc) (k : Int) : Prop :=
  (k = 0 ∧ MayLay m ∧ layD m = b) ∨ (m = [] ∧ k = 2 ∧ shortD b) ∨ (m = [] ∧ k = 4 ∧ ¬ shortD b ∧ ¬ ∃ m : List Pc, (∀ p ∈ m, p.Ok) ∧ MayLay m ∧ layD m = b)
theorem numB_le2 {n : Nat} (h : n < 65536) : numB (leB 2 n) = n := by
  simp only [leB, numB, UInt8.toNat_ofNat']
  omega
theorem lay_not_short {l : List Pc} (h : MayLay l) : ¬ shortD (layD l) := by
  have h1 := lay_len h
  have h2 := h.fits
  have h3 := h.room
  have h4 : (layD l).take 2 = leB 2 (formD l).length := by
    unfold layD
    rw [List.take_append_of_le_length (by rw [leB_length]; omega)]
    exact List.take_of_length_le (by rw [leB_length]; omega)
  unfold shortD
  rw [h4, numB_le2 (by omega), h1]
  omega
/-- What was laid is read as it was. -/
theorem read_laid {l m : List Pc} {k : Int} (h : MayLay l) (ol : ∀ p ∈ l, p.Ok) (om : ∀ p ∈ m, p.Ok) (hr : ReadAns (layD l) m k) : k = 0 ∧ m = l := by
  rcases hr with ⟨h1, h2, h3⟩ | ⟨_, _, h3⟩ | ⟨_, _, _, h4⟩
  · exact ⟨h1, lay_inj h2 h om ol h3⟩
  · exact absurd h3 (lay_not_short h)
  · exact absurd ⟨l, ol, h, rfl⟩ h4
end Go.Proofs.Ytcicdbhffkpldaa

/- The document's example of a laid piece, reckoned. No program in sight, no condition. -/
namespace Go.Proofs.Ytcicdbhffkpldaa
open Go.RowKit

def exD : Pc := ⟨⟨#[97]⟩, 5, -1, 3, 1⟩
theorem exD_ok : exD.Ok := ⟨by decide, by decide, by decide, by decide, by decide⟩
theorem exD_runs : runs [exD] = [[exD]] := by
  rw [runs, List.takeWhile_nil, List.dropWhile_nil, runs]
theorem exD_form : formD [exD] = [1, 1, 97, 1, 10, 1, 3, 1, 0] := by
  unfold formD
  rw [exD_runs]
  have h : exD.s.toList = [97] := by rw [ByteArray.toList_eq]; rfl
  simp only [List.map_cons, List.map_nil, List.flatten_cons, List.flatten_nil, runB, h]
  decide
theorem exD_room : roomD [exD] = 43 := by
  unfold roomD
  simp [roomR, likeO, exD, ByteArray.size]
theorem exD_may : MayLay [exD] := by
  refine ⟨fun p hp => ?_, List.pairwise_singleton _ _, by simp, by rw [exD_room]; omega⟩
  rw [List.mem_singleton.1 hp]
  exact ⟨by decide, by decide⟩
theorem exD_check : checkD [exD] = 0 := check_ok.2 exD_may
theorem exD_lay : (layD [exD]).length = 43 ∧ (layD [exD]).take 11 = [9, 0, 1, 1, 97, 1, 10, 1, 3, 1, 0] := by
  refine ⟨by rw [lay_len exD_may, exD_room], ?_⟩
  unfold layD
  rw [exD_form, exD_room]
  decide
end Go.Proofs.Ytcicdbhffkpldaa

/- The zigzag's back way, reckoned. No program in sight, no condition. -/
namespace Go.Proofs.Ytcicdbhffkpldaa
open Go.RowKit

/-- The number whose zigzag it is. -/
def zagN (n : Nat) : Int := if n % 2 = 0 then ((n / 2 : Nat) : Int) else -((n / 2 : Nat) : Int) - 1
theorem zag_zig (z : Int) : zagN (zigN z) = z := by
  unfold zigN zagN
  split
  · split <;> omega
  · split <;> omega
theorem zig_zag (n : Nat) : zigN (zagN n) = n := by
  unfold zigN zagN
  split
  · split <;> omega
  · split <;> omega
theorem zag_in {n : Nat} (h : n < 18446744073709551616) : -9223372036854775808 ≤ zagN n ∧ zagN n ≤ 9223372036854775807 := by
  unfold zagN
  split <;> omega
end Go.Proofs.Ytcicdbhffkpldaa
