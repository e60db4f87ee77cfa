/- What was synced stays: of a disk, reckoned. No program in sight; the disk is as a disk is. -/
import Derived.Test.YtkgbfghlonennaaPart17
namespace Go.Proofs.Ytkgbfghlonennaa

/-- The sector k is safe, and has the bytes x. -/
def SafeAt (S : DS) (k : Nat) (x : List UInt8) : Prop := ∃ p ∈ S.L, p.plc = k ∧ p.now = x ∧ p.torn = false ∧ p.opn = false
theorem mem_withP {L : List Pl} {p : Pl} (h : p ∈ L) (k : Nat) : p ∈ withP L k := by
  unfold withP
  split
  · exact h
  · unfold insP
    rw [← List.takeWhile_append_dropWhile (p := fun p : Pl => decide (p.plc < k)) (l := L)] at h
    rcases List.mem_append.1 h with h1 | h1
    · exact List.mem_append.2 (.inl h1)
    · exact List.mem_append.2 (.inr (List.mem_cons_of_mem _ h1))
theorem find_plc {L : List Pl} {k : Int} (h : findL L k < L.length) : ((L[findL L k]).plc : Int) = k := by
  have := List.findIdx_getElem (xs := L) (p := fun p : Pl => decide ((p.plc : Int) = k)) (w := h)
  exact of_decide_eq_true this
theorem mem_write {L : List Pl} {p : Pl} (h : p ∈ L) {k : Nat} (hk : p.plc ≠ k) (bs : List UInt8) : p ∈ writeL L k bs := by
  obtain ⟨j, hj, rfl⟩ := List.getElem_of_mem (mem_withP h k)
  unfold writeL
  have hne : findL (withP L k) k ≠ j := fun e => by
    have h1 := find_plc (L := withP L k) (k := (k : Int)) (by rw [e]; exact hj)
    simp only [e] at h1
    exact hk (by omega)
  have h2 : ((withP L k).modify (findL (withP L k) k) fun p => putP p bs)[j]'(by rw [List.length_modify]; exact hj) = (withP L k)[j] := by
    rw [List.getElem_modify, if_neg hne]
  rw [← h2]
  exact List.getElem_mem _
theorem mem_boot (fs : List UInt8) {p : Pl} (ho : p.opn = false) : ∀ (L : List Pl) (j : Nat), p ∈ L → p ∈ bootL fs j L
  | [], _, h => by cases h
  | q :: L, j, h => by
    rw [bootL]
    rcases List.mem_cons.1 h with rfl | h1
    · rw [ho]
      exact List.mem_cons_self ..
    · split
      · exact List.mem_cons_of_mem _ (mem_boot fs ho L _ h1)
      · exact List.mem_cons_of_mem _ (mem_boot fs ho L _ h1)
theorem burn_L (S : DS) : (burnS S).1.L = S.L := by
  unfold burnS
  split
  · split <;> rfl
  · rfl
theorem SafeAt.write {S : DS} {k : Nat} {x : List UInt8} (h : SafeAt S k x) {pl : Int} (hne : pl ≠ k) (bs : List UInt8) : SafeAt (writeS S pl bs).1 k x := by
  obtain ⟨p, hp, h1, h2⟩ := h
  unfold writeS
  split
  · exact ⟨p, hp, h1, h2⟩
  · split
    · exact ⟨p, hp, h1, h2⟩
    · split
      · exact ⟨p, hp, h1, h2⟩
      · refine ⟨p, ?_, h1, h2⟩
        show p ∈ (burnS _).1.L
        rw [burn_L]
        exact mem_write hp (by omega) bs
theorem SafeAt.step {S : DS} {k : Nat} {x : List UInt8} (h : SafeAt S k x) (m : Nat) (a : ActV) (hne : a.plc ≠ k) : SafeAt (stepS S m a).1 k x := by
  unfold stepS
  split
  · obtain ⟨p, hp, h1, h2, h3, h4⟩ := h
    unfold syncS
    split
    · exact ⟨p, hp, h1, h2, h3, h4⟩
    · dsimp only
      split
      · exact ⟨p, by show p ∈ (burnS S).1.L; rw [burn_L]; exact hp, h1, h2, h3, h4⟩
      · refine ⟨safeP p, ?_, h1, h2, h3, rfl⟩
        show safeP p ∈ (burnS S).1.L.map safeP
        rw [burn_L]
        exact List.mem_map.2 ⟨p, hp, rfl⟩
  · split
    · unfold fuseS
      split
      · exact h
      · exact h
    · split
      · obtain ⟨p, hp, h1, h2, h3, h4⟩ := h
        exact ⟨p, mem_boot a.bs h4 S.L 0 hp, h1, h2, h3, h4⟩
      · exact h.write hne a.bs
theorem SafeAt.read {S : DS} {k : Nat} {x : List UInt8} (h : SafeAt S k x) (ho : DOk S) : readS S k = (x, 0) ∧ x.length = 128 := by
  obtain ⟨p, hp, h1, h2, h3, _⟩ := h
  have hf := (ho.full p hp).1
  obtain ⟨i, hi, rfl⟩ := List.getElem_of_mem hp
  have h5 := read_at ho hi
  rw [h1, h3, h2] at h5
  exact ⟨h5, by rw [← h2]; exact hf⟩
theorem first_safe (a : List UInt8) (ha : a.length ≤ 128) : (writeS newS 7 a).2 = 0 ∧ (syncS (writeS newS 7 a).1).2 = 0 ∧ SafeAt (syncS (writeS newS 7 a).1).1 7 (pad128 a) ∧ (syncS (writeS newS 7 a).1).1.ops ≤ 2 ∧ (writeS newS 7 a).1.ops < 1000000 := by
  have e1 : writeS newS 7 a = (⟨[putP (blank 7) a], 0, false, 1⟩, 0) := by
    unfold writeS
    rw [if_neg (by decide), if_neg (by decide), if_neg (by omega)]
    have e : writeL newS.L 7 a = [putP (blank 7) a] := rfl
    have e7 : (7 : Int).toNat = 7 := rfl
    rw [e7, e]
    rfl
  rw [e1]
  refine ⟨rfl, rfl, ⟨safeP (putP (blank 7) a), List.mem_cons_self .., rfl, rfl, rfl, rfl⟩, ?_, ?_⟩
  · show 2 ≤ 2
    decide
  · show 1 < 1000000
    decide
theorem boot_alive (S : DS) (fs : List UInt8) : (bootS S fs).dead = false ∧ (bootS S fs).fuse = 0 := ⟨rfl, rfl⟩
theorem second_write {S : DS} (hd : S.dead = false) (hf : S.fuse = 0) {b : List UInt8} (hb : b.length ≤ 128) : (writeS S 7 b).2 = 0 := by
  unfold writeS
  rw [if_neg (by rw [hd]; decide), if_neg (by decide), if_neg (by omega)]
  unfold burnS
  rw [if_neg (by show ¬ 0 < S.fuse; rw [hf]; decide)]
  rfl
/-- What the second boot leaves. -/
theorem last_read {S : DS} {x b : List UInt8} (h : SafeAt S 7 x) (ho : DOk S) (hd : S.dead = false) (hb : b.length ≤ 128) (fs : List UInt8) (ho2 : DOk (bootS (writeS S 7 b).1 fs)) :
    (readS (bootS (writeS S 7 b).1 fs) 7).2 = 9 ∨ ((readS (bootS (writeS S 7 b).1 fs) 7).2 = 0 ∧ ((readS (bootS (writeS S 7 b).1 fs) 7).1 = x ∨ (readS (bootS (writeS S 7 b).1 fs) 7).1 = pad128 b)) := by
  obtain ⟨p, hp, h1, h2, h3, h4⟩ := h
  obtain ⟨i, hi, rfl⟩ := List.getElem_of_mem hp
  have hfi : findL S.L ((7 : Nat) : Int) = i := by
    have := find_at ho hi
    rw [h1] at this
    exact this
  have hW : writeL S.L 7 b = S.L.modify i fun p => putP p b := by
    have e : withP S.L 7 = S.L := by
      unfold withP
      rw [hfi, if_pos hi]
    unfold writeL
    rw [e, hfi]
  have hL : (writeS S 7 b).1.L = S.L.modify i fun p => putP p b := by
    unfold writeS
    rw [if_neg (by rw [hd]; decide), if_neg (by decide), if_neg (by omega)]
    show (burnS _).1.L = _
    rw [burn_L]
    exact hW
  obtain ⟨q, hq⟩ : ∃ q, q = putP S.L[i] b := ⟨_, rfl⟩
  have hqm : q ∈ (writeS S 7 b).1.L := by
    rw [hL, hq]
    have e : (S.L.modify i fun p => putP p b)[i]'(by rw [List.length_modify]; exact hi) = putP S.L[i] b := by rw [List.getElem_modify, if_pos rfl]
    rw [← e]
    exact List.getElem_mem _
  have hqo : q.opn = true := by rw [hq]; rfl
  have hqp : q.plc = 7 := by rw [hq]; exact h1
  have hqn : q.now = pad128 b := by rw [hq]; rfl
  have hqw : q.was = x := by
    rw [hq]
    show (if S.L[i].opn then S.L[i].was else S.L[i].now) = x
    rw [h4]
    exact h2
  have hqd : q.old = false := by
    rw [hq]
    show (if S.L[i].opn then S.L[i].old else S.L[i].torn) = false
    rw [h4]
    exact h3
  have hqt : q.torn = false := by rw [hq]; rfl
  have hb2 : ∀ (L : List Pl) (j : Nat), q ∈ L → ∃ f, bootP q f ∈ bootL fs j L := by
    intro L
    induction L with
    | nil => intro j h; cases h
    | cons c L ih =>
      intro j h
      rw [bootL]
      rcases List.mem_cons.1 h with rfl | h1
      · rw [hqo]
        exact ⟨_, List.mem_cons_self ..⟩
      · split
        · obtain ⟨f, hf⟩ := ih (j + 1) h1
          exact ⟨f, List.mem_cons_of_mem _ hf⟩
        · obtain ⟨f, hf⟩ := ih j h1
          exact ⟨f, List.mem_cons_of_mem _ hf⟩
  obtain ⟨f, hf⟩ := hb2 _ 0 hqm
  obtain ⟨r, hr⟩ : ∃ r, r = bootP q f := ⟨_, rfl⟩
  have hrm : r ∈ (bootS (writeS S 7 b).1 fs).L := by rw [hr]; exact hf
  have hrp : r.plc = 7 := by rw [hr]; exact hqp
  obtain ⟨j, hj, hrj⟩ := List.getElem_of_mem hrm
  have hread := read_at ho2 hj
  rw [hrj, hrp] at hread
  have e7 : ((7 : Nat) : Int) = (7 : Int) := rfl
  rw [e7] at hread
  rw [hread]
  by_cases ht : r.torn = true
  · rw [if_pos ht]
    exact .inl rfl
  · rw [if_neg ht]
    refine .inr ⟨rfl, ?_⟩
    show r.now = x ∨ r.now = pad128 b
    rw [hr]
    show (if f = 0 then q.was else q.now) = x ∨ (if f = 0 then q.was else q.now) = pad128 b
    split
    · exact .inl hqw
    · exact .inr hqn
end Go.Proofs.Ytkgbfghlonennaa
