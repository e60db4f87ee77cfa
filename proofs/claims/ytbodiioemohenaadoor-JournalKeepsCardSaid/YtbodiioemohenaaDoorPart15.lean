/- Part 15 of the words that the laws share: SlSpec, SlDisk, SlSave, SlMain, JnSpec. No condition of its own: each theorem says its own. -/
import Derived.Test.YtbodiioemohenaaDoorPart13
import Derived.Test.YtbodiioemohenaaDoorPart14
import Derived.Test.YtbodiioemohenaaDoorPart9

/- A pair of slots on a disk, reckoned: parts, what is whole, what is loaded, what is saved. No program in sight, no condition of its own. -/
namespace Go.Proofs.YtbodiioemohenaaDoor
open Go.RowKit

theorem numB_le (k n : Nat) (h : n < 256 ^ k) : numB (leB k n) = n := by
  induction k generalizing n with
  | zero =>
    rw [Nat.pow_zero] at h
    simp [leB, numB]
    omega
  | succ k ih =>
    rw [leB, numB, ih _ (by rw [Nat.pow_succ] at h; omega), UInt8.toNat_ofNat']
    omega
/-- How many parts so many bytes have. -/
def cntS (l : Nat) : Nat := if l = 0 then 1 else (l + 103) / 104
theorem cntS_pos (l : Nat) : 1 ≤ cntS l := by
  unfold cntS
  split
  · exact Nat.le_refl _
  · omega
theorem cntS_le {l k : Nat} (h : l ≤ 104 * k) (hk : 1 ≤ k) : cntS l ≤ k := by
  unfold cntS
  split
  · exact hk
  · omega
theorem cntS_ge (l : Nat) : l ≤ 104 * cntS l := by
  unfold cntS
  split
  · omega
  · omega
/-- A sector's first bytes: the number, the place, how many parts, how many bytes, the fingerprint. -/
def hdrS (n i c l : Nat) (fp : List UInt8) : List UInt8 := leB 8 n ++ leB 2 i ++ leB 2 c ++ leB 4 l ++ fp
theorem hdrS_length (n i c l : Nat) {fp : List UInt8} (h : fp.length = 8) : (hdrS n i c l fp).length = 24 := by
  simp [hdrS, leB_length, h]
def numOf (x : List UInt8) : Nat := numB (x.take 8)
def cntOf (x : List UInt8) : Nat := numB ((x.drop 10).take 2)
def lenOf (x : List UInt8) : Nat := numB ((x.drop 12).take 4)
theorem numOf_hdr {x : List UInt8} {n i c l : Nat} {fp : List UInt8} (h : x.take 24 = hdrS n i c l fp) (hn : n < 256 ^ 8) : numOf x = n := by
  have e : x.take 8 = (x.take 24).take 8 := by rw [List.take_take]; rfl
  unfold numOf
  rw [e, h]
  unfold hdrS
  rw [List.append_assoc, List.append_assoc, List.append_assoc, List.take_append_of_le_length (by rw [leB_length]; omega), List.take_of_length_le (by rw [leB_length]; omega)]
  exact numB_le 8 n hn
theorem cntOf_hdr {x : List UInt8} {n i c l : Nat} {fp : List UInt8} (h : x.take 24 = hdrS n i c l fp) (hc : c < 256 ^ 2) : cntOf x = c := by
  have e : (x.drop 10).take 2 = ((x.take 24).drop 10).take 2 := by
    rw [List.drop_take, List.take_take]
    rfl
  unfold cntOf
  rw [e, h]
  unfold hdrS
  have e2 : (leB 8 n ++ leB 2 i ++ leB 2 c ++ leB 4 l ++ fp) = (leB 8 n ++ leB 2 i) ++ (leB 2 c ++ (leB 4 l ++ fp)) := by simp
  rw [e2, List.drop_left' (by simp [leB_length]), List.take_append_of_le_length (by rw [leB_length]; omega), List.take_of_length_le (by rw [leB_length]; omega)]
  exact numB_le 2 c hc
theorem lenOf_hdr {x : List UInt8} {n i c l : Nat} {fp : List UInt8} (h : x.take 24 = hdrS n i c l fp) (hl : l < 256 ^ 4) : lenOf x = l := by
  have e : (x.drop 12).take 4 = ((x.take 24).drop 12).take 4 := by
    rw [List.drop_take, List.take_take]
    rfl
  unfold lenOf
  rw [e, h]
  unfold hdrS
  have e2 : (leB 8 n ++ leB 2 i ++ leB 2 c ++ leB 4 l ++ fp) = (leB 8 n ++ leB 2 i ++ leB 2 c) ++ (leB 4 l ++ fp) := by simp
  rw [e2, List.drop_left' (by simp [leB_length]), List.take_append_of_le_length (by rw [leB_length]; omega), List.take_of_length_le (by rw [leB_length]; omega)]
  exact numB_le 4 l hl
section
variable (fp : List UInt8 → List UInt8)
/-- The part i of bytes that are laid with a number. -/
def partS (bs : List UInt8) (n i : Nat) : List UInt8 := hdrS n i (cntS bs.length) bs.length (fp bs) ++ (bs.drop (104 * i)).take 104
def partsS (bs : List UInt8) (n : Nat) : List (List UInt8) := (List.range (cntS bs.length)).map (partS fp bs n)
/-- What is written into a slot of k sectors: the parts; if it is wiped, bytes 00 behind them. -/
def laidS (bs : List UInt8) (n k : Nat) (wiped : Bool) : List (List UInt8) := partsS fp bs n ++ if wiped then List.replicate (k - cntS bs.length) [] else []
theorem partsS_length (bs : List UInt8) (n : Nat) : (partsS fp bs n).length = cntS bs.length := by simp [partsS]
theorem partS_length (hf : ∀ b, (fp b).length = 8) (bs : List UInt8) (n i : Nat) : (partS fp bs n i).length ≤ 128 := by
  unfold partS
  rw [List.length_append, hdrS_length _ _ _ _ (hf bs), List.length_take]
  omega
/-- What is told of a slot's sectors: none of one that is torn. -/
abbrev View := Nat → Option (List UInt8)
def bodyV (V : View) (c : Nat) : List UInt8 := ((List.range c).map fun i => ((V i).getD []).drop 24).flatten
/-- The bytes and the number of a slot that is whole. -/
def Whole (V : View) (k : Nat) (bs : List UInt8) (n : Nat) : Prop :=
  ∃ c, c ≤ k ∧ c = cntS bs.length ∧ n < 256 ^ 8 ∧ (∀ i, i < c → ∃ x, V i = some x ∧ x.take 24 = hdrS n i c bs.length (fp bs)) ∧ bs = (bodyV V c).take bs.length ∧ bs.length < 256 ^ 4
end
theorem bodyV_congr {V W : View} {c : Nat} (h : ∀ i, i < c → V i = W i) : bodyV V c = bodyV W c := by
  unfold bodyV
  congr 1
  apply List.map_congr_left
  intro i hi
  rw [h i (List.mem_range.1 hi)]
theorem Whole.congr {fp : List UInt8 → List UInt8} {V W : View} {k n : Nat} {bs : List UInt8} (h : Whole fp V k bs n) (hv : ∀ i, i < cntS bs.length → W i = V i) : Whole fp W k bs n := by
  obtain ⟨c, h1, h2, h3, h4, h5, h6⟩ := h
  subst h2
  refine ⟨_, h1, rfl, h3, fun i hi => ?_, ?_, h6⟩
  · rw [hv i hi]
    exact h4 i hi
  · rw [bodyV_congr (V := W) (W := V) hv]
    exact h5
/-- What a slot is whole with is told by its first sector. -/
theorem Whole.one {fp : List UInt8 → List UInt8} {V : View} {k k' n m : Nat} {b c : List UInt8} (hk : k < 65536) (hk' : k' < 65536) (h : Whole fp V k b n) (g : Whole fp V k' c m) : b = c ∧ n = m := by
  obtain ⟨c1, h1, h2, h3, h4, h5, h6⟩ := h
  obtain ⟨c2, g1, g2, g3, g4, g5, g6⟩ := g
  obtain ⟨x, hx, ex⟩ := h4 0 (by rw [h2]; exact cntS_pos _)
  obtain ⟨y, hy, ey⟩ := g4 0 (by rw [g2]; exact cntS_pos _)
  rw [hx] at hy
  injection hy with hy
  subst hy
  have e1 : n = m := by rw [← numOf_hdr ex h3, numOf_hdr ey g3]
  have e2 : c1 = c2 := by rw [← cntOf_hdr ex (by omega), cntOf_hdr ey (by omega)]
  have e3 : b.length = c.length := by rw [← lenOf_hdr ex h6, lenOf_hdr ey g6]
  refine ⟨?_, e1⟩
  rw [h5, g5, e2, e3]
theorem Whole.first {fp : List UInt8 → List UInt8} {V : View} {k n : Nat} {bs : List UInt8} (h : Whole fp V k bs n) : ∃ x, V 0 = some x ∧ numOf x = n := by
  obtain ⟨c, h1, h2, h3, h4, h5, h6⟩ := h
  obtain ⟨x, hx, ex⟩ := h4 0 (by rw [h2]; exact cntS_pos _)
  exact ⟨x, hx, numOf_hdr ex h3⟩
/-- Bytes that have been laid are whole. -/
theorem pad_take {x : List UInt8} (h : 24 ≤ x.length) : (pad128 x).take 24 = x.take 24 := by
  unfold pad128
  rw [List.take_append_of_le_length h]
theorem part_take {fp : List UInt8 → List UInt8} (hf : ∀ b, (fp b).length = 8) (bs : List UInt8) (n i : Nat) : (pad128 (partS fp bs n i)).take 24 = hdrS n i (cntS bs.length) bs.length (fp bs) := by
  have h := hdrS_length n i (cntS bs.length) bs.length (hf bs)
  rw [pad_take (by unfold partS; rw [List.length_append, h]; omega)]
  unfold partS
  rw [List.take_append_of_le_length (by omega), List.take_of_length_le (by omega)]
theorem part_drop {fp : List UInt8 → List UInt8} (hf : ∀ b, (fp b).length = 8) (bs : List UInt8) (n i : Nat) : (pad128 (partS fp bs n i)).drop 24 = (bs.drop (104 * i)).take 104 ++ List.replicate (104 - (bs.length - 104 * i)) 0 := by
  have h := hdrS_length n i (cntS bs.length) bs.length (hf bs)
  unfold pad128 partS
  rw [List.append_assoc, List.drop_left' h]
  congr 2
  rw [List.length_append, h, List.length_take, List.length_drop]
  omega
theorem cut_body : ∀ (c : Nat) (bs : List UInt8), bs.length ≤ 104 * c → ((List.range c).map fun i => (bs.drop (104 * i)).take 104 ++ List.replicate (104 - (bs.length - 104 * i)) (0 : UInt8)).flatten = bs ++ List.replicate (104 * c - bs.length) 0
  | 0, bs, h => by
    have : bs = [] := List.eq_nil_of_length_eq_zero (by omega)
    subst this
    rfl
  | c + 1, bs, h => by
    rw [List.range_succ_eq_map, List.map_cons, List.flatten_cons, List.map_map]
    have ih := cut_body c (bs.drop 104) (by rw [List.length_drop]; omega)
    have e : ((fun i => (bs.drop (104 * i)).take 104 ++ List.replicate (104 - (bs.length - 104 * i)) (0 : UInt8)) ∘ Nat.succ) = fun i => ((bs.drop 104).drop (104 * i)).take 104 ++ List.replicate (104 - ((bs.drop 104).length - 104 * i)) (0 : UInt8) := by
      funext i
      show (bs.drop (104 * (i + 1))).take 104 ++ List.replicate (104 - (bs.length - 104 * (i + 1))) (0 : UInt8) = _
      rw [List.drop_drop, List.length_drop, show 104 * (i + 1) = 104 + 104 * i by omega, show bs.length - (104 + 104 * i) = bs.length - 104 - 104 * i by omega]
    rw [e, ih, Nat.mul_zero, List.drop_zero, List.length_drop]
    by_cases hl : 104 ≤ bs.length
    · rw [show 104 - (bs.length - 0) = 0 by omega, List.replicate_zero, List.append_nil, ← List.append_assoc, List.take_append_drop]
      congr 2
      omega
    · rw [List.take_of_length_le (by omega), List.drop_of_length_le (by omega), List.append_assoc, List.nil_append, List.replicate_append_replicate]
      congr 2
      omega
theorem whole_laid {fp : List UInt8 → List UInt8} (hf : ∀ b, (fp b).length = 8) {V : View} {k n : Nat} {bs : List UInt8} (hk : bs.length ≤ 104 * k) (h1 : 1 ≤ k) (hk2 : k ≤ 1024) (hn : n < 256 ^ 8) (hv : ∀ i, i < cntS bs.length → V i = some (pad128 (partS fp bs n i))) : Whole fp V k bs n := by
  refine ⟨_, cntS_le hk h1, rfl, hn, fun i hi => ⟨_, hv i hi, part_take hf bs n i⟩, ?_, by omega⟩
  have e : bodyV V (cntS bs.length) = bs ++ List.replicate (104 * cntS bs.length - bs.length) 0 := by
    rw [← cut_body (cntS bs.length) bs (cntS_ge _)]
    unfold bodyV
    congr 1
    apply List.map_congr_left
    intro i hi
    rw [hv i (List.mem_range.1 hi)]
    exact part_drop hf bs n i
  rw [e, List.take_append_of_le_length (Nat.le_refl _), List.take_of_length_le (Nat.le_refl _)]
/-- What comes of a slot that was written over in part: nothing whole, or what was, or what was to be. -/
theorem whole_mixed {fp : List UInt8 → List UInt8} (hf : ∀ b, (fp b).length = 8) {V W : View} {k n m : Nat} {bs b : List UInt8} (hk : bs.length ≤ 104 * k) (h1 : 1 ≤ k) (hk2 : k ≤ 1024) (hn : n < 256 ^ 8)
    (hold : ∀ i x, i < k → V i = some x → numOf x < n) (hmix : ∀ i, i < k → W i = V i ∨ (i < cntS bs.length ∧ (W i = some (pad128 (partS fp bs n i)) ∨ W i = none))) (hw : Whole fp W k b m) : Whole fp V k b m ∨ (b = bs ∧ m = n) := by
  have hw' := hw
  obtain ⟨c, h2, h3, h4, h5, h6, h7⟩ := hw
  have hnew : ∀ i, numOf (pad128 (partS fp bs n i)) = n := fun i => numOf_hdr (part_take hf bs n i) hn
  by_cases hm : m = n
  · right
    subst hm
    have hall : ∀ i, i < c → i < cntS bs.length ∧ W i = some (pad128 (partS fp bs m i)) := fun i hi => by
      obtain ⟨x, hx, ex⟩ := h5 i hi
      rcases hmix i (by omega) with h | ⟨hlt, h | h⟩
      · rw [h] at hx
        have := hold i x (by omega) hx
        rw [numOf_hdr ex h4] at this
        omega
      · exact ⟨hlt, h⟩
      · rw [h] at hx
        cases hx
    have h0 := hall 0 (by rw [h3]; exact cntS_pos _)
    obtain ⟨x, hx, ex⟩ := h5 0 (by rw [h3]; exact cntS_pos _)
    rw [h0.2] at hx
    injection hx with hx
    have et := part_take hf bs m 0
    rw [hx] at et
    have hcl : cntS bs.length < 65536 := by have := cntS_le hk h1; omega
    have ec : c = cntS bs.length := by rw [← cntOf_hdr ex (by omega), cntOf_hdr et (by omega)]
    have el : b.length = bs.length := by rw [← lenOf_hdr ex h7, lenOf_hdr et (by omega)]
    have hl := whole_laid hf (V := W) hk h1 hk2 hn fun i hi => (hall i (by omega)).2
    exact ⟨(Whole.one (by omega) (by omega) hw' hl).1, rfl⟩
  · left
    refine hw'.congr fun i hi => ?_
    rw [← h3] at hi
    obtain ⟨x, hx, ex⟩ := h5 i hi
    rcases hmix i (by omega) with h | ⟨_, h | h⟩
    · exact h.symm
    · rw [h] at hx
      injection hx with hx
      have e := hnew i
      rw [hx, numOf_hdr ex h4] at e
      exact absurd e hm
    · rw [h] at hx
      cases hx
end Go.Proofs.YtbodiioemohenaaDoor

/- Sectors written one behind the other, synced, or met by fates: what is told of them. No program in sight. Condition: the disk is as a disk is. -/
namespace Go.Proofs.YtbodiioemohenaaDoor
open Go.RowKit

/-- What is told of the sectors from a place on. -/
def viewS (S : DS) (a : Nat) : View := fun i => if sectW S.L ((a + i : Nat) : Int) then some (sectB S.L ((a + i : Nat) : Int)) else none
def ShutL (L : List Pl) : Prop := ∀ (q : Int) p, getP L q = some p → p.opn = false
def writesL : List Pl → Nat → List (List UInt8) → List Pl
  | L, _, [] => L
  | L, a, x :: xs => writesL (writeL L a x) (a + 1) xs
def writesS : DS → Nat → List (List UInt8) → DS × Nat
  | S, _, [] => (S, 0)
  | S, a, x :: xs => if (writeS S (a : Int) x).2 = 0 then writesS (writeS S (a : Int) x).1 (a + 1) xs else writeS S (a : Int) x
theorem getP_writesL : ∀ (xs : List (List UInt8)) (L : List Pl) (a q : Nat), getP (writesL L a xs) (q : Int) = if a ≤ q ∧ q < a + xs.length then some (putP ((getP L (q : Int)).getD (blank q)) (xs.getD (q - a) [])) else getP L (q : Int)
  | [], L, a, q => by
    rw [if_neg (by rw [List.length_nil]; omega)]
    rfl
  | x :: xs, L, a, q => by
    show getP (writesL (writeL L a x) (a + 1) xs) (q : Int) = _
    rw [getP_writesL xs, getP_writeL, List.length_cons]
    by_cases h : q = a
    · subst h
      rw [if_neg (by omega), if_pos rfl, if_pos (by omega), Nat.sub_self]
      rfl
    · have h2 : ¬ (q : Int) = (a : Int) := by omega
      rw [if_neg h2]
      by_cases h3 : a + 1 ≤ q ∧ q < a + 1 + xs.length
      · rw [if_pos h3, if_pos (by omega), show q - a = (q - (a + 1)) + 1 by omega, List.getD_cons_succ]
      · rw [if_neg h3, if_neg (by omega)]
theorem burn_dead (S : DS) (h : S.dead = false) : ((burnS S).2 = true ∧ (burnS S).1.dead = true) ∨ ((burnS S).2 = false ∧ (burnS S).1.dead = false) := by
  unfold burnS
  split
  · split
    · exact .inl ⟨rfl, rfl⟩
    · exact .inr ⟨rfl, h⟩
  · exact .inr ⟨rfl, h⟩
theorem writeS_is {S : DS} (h : S.dead = false) {a : Nat} (ha : a < 1024) {x : List UInt8} (hx : x.length ≤ 128) : (writeS S (a : Int) x).1.L = writeL S.L a x ∧ (writeS S (a : Int) x).1.ops = S.ops + 1 ∧ (((writeS S (a : Int) x).2 = 10 ∧ (writeS S (a : Int) x).1.dead = true) ∨ ((writeS S (a : Int) x).2 = 0 ∧ (writeS S (a : Int) x).1.dead = false)) := by
  have e : writeS S (a : Int) x = ((burnS { S with L := writeL S.L a x }).1, if (burnS { S with L := writeL S.L a x }).2 then 10 else 0) := by
    unfold writeS
    rw [if_neg (by rw [h]; decide), if_neg (by omega), if_neg (by omega)]
    rfl
  rw [e]
  refine ⟨burnS_L _, burnS_ops _, ?_⟩
  rcases burn_dead { S with L := writeL S.L a x } h with ⟨h1, h2⟩ | ⟨h1, h2⟩
  · exact .inl ⟨by rw [h1]; rfl, h2⟩
  · exact .inr ⟨by rw [h1]; rfl, h2⟩
theorem writesS_is : ∀ (xs : List (List UInt8)) (S : DS) (a : Nat), S.dead = false → a + xs.length ≤ 1024 → (∀ x ∈ xs, x.length ≤ 128) →
    ∃ j, j ≤ xs.length ∧ (writesS S a xs).1.L = writesL S.L a (xs.take j) ∧ (writesS S a xs).1.ops ≤ S.ops + xs.length ∧ (((writesS S a xs).2 = 0 ∧ (writesS S a xs).1.dead = false ∧ j = xs.length) ∨ ((writesS S a xs).2 = 10 ∧ (writesS S a xs).1.dead = true))
  | [], S, a, hd, _, _ => ⟨0, Nat.le_refl _, rfl, Nat.le_refl _, .inl ⟨rfl, hd, rfl⟩⟩
  | x :: xs, S, a, hd, ha, hx => by
    rw [List.length_cons] at ha
    obtain ⟨h1, h2, h3⟩ := writeS_is hd (a := a) (by omega) (hx x (List.mem_cons_self ..))
    rcases h3 with ⟨h4, h5⟩ | ⟨h4, h5⟩
    · have e : writesS S a (x :: xs) = writeS S (a : Int) x := by
        show (if (writeS S (a : Int) x).2 = 0 then _ else _) = _
        rw [if_neg (by rw [h4]; decide)]
      rw [e]
      exact ⟨1, by rw [List.length_cons]; omega, h1, by rw [h2, List.length_cons]; omega, .inr ⟨h4, h5⟩⟩
    · have e : writesS S a (x :: xs) = writesS (writeS S (a : Int) x).1 (a + 1) xs := by
        show (if (writeS S (a : Int) x).2 = 0 then _ else _) = _
        rw [if_pos h4]
      rw [e]
      obtain ⟨j, k1, k2, k3, k4⟩ := writesS_is xs _ (a + 1) h5 (by omega) fun y hy => hx y (List.mem_cons_of_mem _ hy)
      refine ⟨j + 1, by rw [List.length_cons]; omega, ?_, by rw [List.length_cons]; omega, ?_⟩
      · rw [k2, h1]
        rfl
      · rcases k4 with ⟨k5, k6, k7⟩ | k4
        · exact .inl ⟨k5, k6, by rw [List.length_cons, k7]⟩
        · exact .inr k4
/-- A disk between saves: the power is there, all sectors are safe. -/
structure Calm (S : DS) : Prop where
  on : S.dead = false
  shut : ShutL S.L
  opn : OpnOk S.L
  ok : DOk S
theorem opn_writes : ∀ (xs : List (List UInt8)) {L : List Pl} (a : Nat), OpnOk L → OpnOk (writesL L a xs)
  | [], _, _, h => h
  | x :: xs, _, a, h => opn_writes xs (a + 1) (opn_write h a x)
theorem dok_writes : ∀ (xs : List (List UInt8)) {S : DS} (a : Nat), DOk S → a + xs.length ≤ 1024 → (∀ x ∈ xs, x.length ≤ 128) → DOk { S with L := writesL S.L a xs }
  | [], _, _, h, _, _ => h
  | x :: xs, S, a, h, ha, hx => by
    rw [List.length_cons] at ha
    exact dok_writes xs (S := { S with L := writeL S.L a x }) (a + 1) (dok_writeL h (by omega) (hx x (List.mem_cons_self ..))) (by omega) fun y hy => hx y (List.mem_cons_of_mem _ hy)
theorem shut_safe (L : List Pl) : ShutL (L.map safeP) := fun q p hp => by
  rw [getP_safe] at hp
  obtain ⟨r, _, rfl⟩ := Option.map_eq_some_iff.1 hp
  rfl
theorem shut_boot {L : List Pl} (h : L.Pairwise fun p q => p.plc < q.plc) (fs : List UInt8) : ShutL (bootL fs 0 L) := fun q p hp => by
  rw [getP_boot fs L 0 q h] at hp
  obtain ⟨r, _, rfl⟩ := Option.map_eq_some_iff.1 hp
  by_cases ho : r.opn = true
  · rw [if_pos ho]
    rfl
  · rw [if_neg ho]
    simpa using ho
/-- Written and synced: what is told. -/
theorem view_safe {L : List Pl} (S S' : DS) (hS : S.L = L) (a : Nat) (xs : List (List UInt8)) (hS' : S'.L = (writesL L a xs).map safeP) (b i : Nat) :
    viewS S' b i = if a ≤ b + i ∧ b + i < a + xs.length then some (pad128 (xs.getD (b + i - a) [])) else viewS S b i := by
  subst hS
  unfold viewS sectW sectB
  rw [hS', getP_safe, getP_writesL]
  by_cases h : a ≤ b + i ∧ b + i < a + xs.length
  · rw [if_pos h, if_pos h]
    rfl
  · rw [if_neg h, if_neg h]
    cases getP S.L ((b + i : Nat) : Int) <;> rfl
/-- Written, not synced, and met by fates: what is told. -/
theorem view_fates {S S' : DS} (hc : Calm S) (a : Nat) (xs : List (List UInt8)) (hS' : S'.L = writesL S.L a xs) (hr : S'.L.Pairwise fun p q => p.plc < q.plc) (fs : List UInt8) (b i : Nat) :
    viewS (bootS S' fs) b i = viewS S b i ∨ ((a ≤ b + i ∧ b + i < a + xs.length) ∧ (viewS (bootS S' fs) b i = some (pad128 (xs.getD (b + i - a) [])) ∨ viewS (bootS S' fs) b i = none)) := by
  unfold viewS sectW sectB bootS
  show (if (getP (bootL fs 0 S'.L) _).elim true _ then some ((getP (bootL fs 0 S'.L) _).elim z128 _) else none) = _ ∨ (_ ∧ ((if (getP (bootL fs 0 S'.L) _).elim true _ then some ((getP (bootL fs 0 S'.L) _).elim z128 _) else none) = _ ∨ (if (getP (bootL fs 0 S'.L) _).elim true _ then some ((getP (bootL fs 0 S'.L) _).elim z128 _) else none) = _))
  rw [getP_boot fs S'.L 0 _ hr]
  generalize hfa : fate fs (0 + openB S'.L ((b + i : Nat) : Int)) = φ
  rw [hS', getP_writesL]
  by_cases h : a ≤ b + i ∧ b + i < a + xs.length
  · rw [if_pos h]
    generalize hx : xs.getD (b + i - a) [] = x
    generalize hp0 : (getP S.L ((b + i : Nat) : Int)).getD (blank (b + i)) = p0
    have hsh : p0.opn = false := by
      rw [← hp0]
      cases hg : getP S.L ((b + i : Nat) : Int) with
      | none => rfl
      | some p => exact hc.shut _ p hg
    have hφ : φ < 3 := by
      rw [← hfa]
      unfold fate
      split
      · decide
      · exact Nat.mod_lt _ (by decide)
    have hv : (if (getP S.L ((b + i : Nat) : Int)).elim true (fun p => !p.torn) then some ((getP S.L ((b + i : Nat) : Int)).elim z128 fun p => if p.torn then z128 else p.now) else none) = (if p0.torn then none else some p0.now) := by
      rw [← hp0]
      cases hg : getP S.L ((b + i : Nat) : Int) with
      | none => rfl
      | some p =>
        show (if (!p.torn) = true then some (if p.torn then z128 else p.now) else none) = (if p.torn then none else some p.now)
        cases p.torn <;> rfl
    rw [hv]
    have e1 : (putP p0 x).opn = true := rfl
    have e2 : (putP p0 x).was = p0.now := by unfold putP; rw [hsh]; rfl
    have e3 : (putP p0 x).old = p0.torn := by unfold putP; rw [hsh]; rfl
    have e4 : (putP p0 x).now = pad128 x := rfl
    have e5 : (putP p0 x).torn = false := rfl
    show (if (!(if (putP p0 x).opn then bootP (putP p0 x) φ else putP p0 x).torn) = true then some (if (if (putP p0 x).opn then bootP (putP p0 x) φ else putP p0 x).torn then z128 else (if (putP p0 x).opn then bootP (putP p0 x) φ else putP p0 x).now) else none) = _ ∨ (_ ∧ ((if (!(if (putP p0 x).opn then bootP (putP p0 x) φ else putP p0 x).torn) = true then some (if (if (putP p0 x).opn then bootP (putP p0 x) φ else putP p0 x).torn then z128 else (if (putP p0 x).opn then bootP (putP p0 x) φ else putP p0 x).now) else none) = _ ∨ (if (!(if (putP p0 x).opn then bootP (putP p0 x) φ else putP p0 x).torn) = true then some (if (if (putP p0 x).opn then bootP (putP p0 x) φ else putP p0 x).torn then z128 else (if (putP p0 x).opn then bootP (putP p0 x) φ else putP p0 x).now) else none) = _))
    rw [if_pos e1]
    have b1 : (bootP (putP p0 x) φ).now = if φ = 0 then p0.now else pad128 x := by
      show (if φ = 0 then (putP p0 x).was else (putP p0 x).now) = _
      rw [e2, e4]
    have b2 : (bootP (putP p0 x) φ).torn = if φ = 0 then p0.torn else if φ = 2 then true else false := by
      show (if φ = 0 then (putP p0 x).old else if φ = 2 then true else (putP p0 x).torn) = _
      rw [e3, e5]
    rw [b1, b2]
    obtain rfl | rfl | rfl : φ = 0 ∨ φ = 1 ∨ φ = 2 := by omega
    · left
      show (if (!p0.torn) = true then some (if p0.torn then z128 else p0.now) else none) = _
      cases p0.torn <;> rfl
    · right
      exact ⟨h, .inl rfl⟩
    · right
      exact ⟨h, .inr rfl⟩
  · rw [if_neg h]
    left
    cases hg : getP S.L ((b + i : Nat) : Int) with
    | none => rfl
    | some p =>
      have ho := hc.shut _ p hg
      show (if (!(if p.opn then bootP p φ else p).torn) = true then some (if (if p.opn then bootP p φ else p).torn then z128 else (if p.opn then bootP p φ else p).now) else none) = _
      rw [ho]
      rfl
/-- All safe: the fates find nothing. -/
theorem view_calm {S : DS} (hc : Calm S) (fs : List UInt8) (b i : Nat) : viewS (bootS S fs) b i = viewS S b i := by
  rcases view_fates hc 0 [] rfl hc.ok.rise fs b i with h | ⟨h, _⟩
  · exact h
  · rw [List.length_nil] at h
    omega
theorem calm_boot {S : DS} (ho : DOk S) (fs : List UInt8) : Calm (bootS S fs) := ⟨rfl, shut_boot ho.rise fs, opn_boot ho.rise fs, dok_boot ho fs⟩
end Go.Proofs.YtbodiioemohenaaDoor

/- What a pair of slots is loaded with, what a save makes of it, wherever the fuse burns, whatever the fates. No program in sight. Conditions: there is room; the number is none that is spent. -/
namespace Go.Proofs.YtbodiioemohenaaDoor
open Go.RowKit

/-- What a slot is whole with. -/
noncomputable def slotOf (fp : List UInt8 → List UInt8) (V : View) (k : Nat) : Option (List UInt8 × Nat) :=
  @dite _ (∃ r : List UInt8 × Nat, Whole fp V k r.1 r.2) (Classical.propDecidable _) (fun h => some h.choose) fun _ => none
theorem slotOf_some {fp : List UInt8 → List UInt8} {V : View} {k : Nat} (hk : k < 65536) {b : List UInt8} {n : Nat} : slotOf fp V k = some (b, n) ↔ Whole fp V k b n := by
  unfold slotOf
  constructor
  · intro h
    split at h
    · rename_i hw
      injection h with h
      have h2 := hw.choose_spec
      rw [h] at h2
      exact h2
    · cases h
  · intro h
    rw [dif_pos ⟨(b, n), h⟩]
    have hw : ∃ r : List UInt8 × Nat, Whole fp V k r.1 r.2 := ⟨(b, n), h⟩
    obtain ⟨e1, e2⟩ := Whole.one hk hk hw.choose_spec h
    congr 1
    exact Prod.ext e1 e2
theorem slotOf_none {fp : List UInt8 → List UInt8} {V : View} {k : Nat} : slotOf fp V k = none ↔ ∀ b n, ¬ Whole fp V k b n := by
  unfold slotOf
  constructor
  · intro h b n hw
    rw [dif_pos ⟨(b, n), hw⟩] at h
    cases h
  · intro h
    rw [dif_neg]
    rintro ⟨r, hr⟩
    exact h _ _ hr
theorem slotOf_congr {fp : List UInt8 → List UInt8} {V W : View} {k : Nat} (hk : k < 65536) (h : ∀ i, i < k → W i = V i) : slotOf fp W k = slotOf fp V k := by
  cases hv : slotOf fp V k with
  | none =>
    rw [slotOf_none] at hv ⊢
    intro b n hw
    have hc : cntS b.length ≤ k := by
      obtain ⟨c, h1, h2, _⟩ := hw
      omega
    exact hv b n (hw.congr fun i hi => (h i (by omega)).symm)
  | some r =>
    obtain ⟨b, n⟩ := r
    rw [slotOf_some hk] at hv ⊢
    have hc : cntS b.length ≤ k := by
      obtain ⟨c, h1, h2, _⟩ := hv
      omega
    exact hv.congr fun i hi => h i (by omega)
/-- Of two slots the one with the greater number; of both the same: the first. -/
def loadOf : Option (List UInt8 × Nat) → Option (List UInt8 × Nat) → Option (List UInt8 × Nat × Nat)
  | some (b, n), none => some (b, n, 0)
  | some (b, n), some (c, m) => if m ≤ n then some (b, n, 0) else some (c, m, 1)
  | none, some (c, m) => some (c, m, 1)
  | none, none => none
section
variable (fp : List UInt8 → List UInt8) (S : DS) (a k : Nat)
noncomputable def loadS : Option (List UInt8 × Nat × Nat) := loadOf (slotOf fp (viewS S a) k) (slotOf fp (viewS S (a + k)) k)
/-- The greatest number that is told. -/
def mostS : Nat := (List.range (2 * k)).foldl (fun m i => max m ((viewS S a i).elim 0 numOf)) 0
/-- Which slot is the pair's; 1, if none is whole. -/
def slotN (r : Option (List UInt8 × Nat × Nat)) : Nat := r.elim 1 fun x => x.2.2
noncomputable def saveS (bs : List UInt8) (wiped : Bool) : DS × Nat :=
  let r := writesS S (a + k * (1 - slotN (loadS fp S a k))) (laidS fp bs (mostS S a k + 1) k wiped)
  if r.2 = 0 then syncS r.1 else r
end
theorem fold_max : ∀ (l : List Nat) (f : Nat → Nat) (m : Nat), m ≤ l.foldl (fun m i => max m (f i)) m ∧ (∀ i ∈ l, f i ≤ l.foldl (fun m i => max m (f i)) m) ∧ ∀ B, m ≤ B → (∀ i ∈ l, f i ≤ B) → l.foldl (fun m i => max m (f i)) m ≤ B
  | [], f, m => ⟨Nat.le_refl _, fun _ hi => (by cases hi), fun _ h _ => h⟩
  | x :: l, f, m => by
    obtain ⟨h1, h2, h3⟩ := fold_max l f (max m (f x))
    rw [List.foldl_cons]
    refine ⟨by omega, fun i hi => ?_, fun B hB hl => h3 B ?_ fun i hi => hl i (List.mem_cons_of_mem _ hi)⟩
    · rcases List.mem_cons.1 hi with rfl | hi
      · omega
      · exact h2 i hi
    · have := hl x (List.mem_cons_self ..)
      omega
theorem most_ge {S : DS} {a k i : Nat} {x : List UInt8} (hi : i < 2 * k) (h : viewS S a i = some x) : numOf x ≤ mostS S a k := by
  have h1 := (fold_max (List.range (2 * k)) (fun i => (viewS S a i).elim 0 numOf) 0).2.1 i (List.mem_range.2 hi)
  rw [h] at h1
  exact h1
theorem most_le {S : DS} {a k B : Nat} (h : ∀ i x, i < 2 * k → viewS S a i = some x → numOf x ≤ B) : mostS S a k ≤ B := by
  refine (fold_max (List.range (2 * k)) (fun i => (viewS S a i).elim 0 numOf) 0).2.2 B (Nat.zero_le _) fun i hi => ?_
  cases hv : viewS S a i with
  | none => exact Nat.zero_le _
  | some x => exact h i x (List.mem_range.1 hi) hv
theorem view_off (S : DS) (a b i : Nat) : viewS S (a + b) i = viewS S a (b + i) := by
  unfold viewS
  rw [Nat.add_assoc]
theorem whole_most {fp : List UInt8 → List UInt8} {S : DS} {a k j n : Nat} {b : List UInt8} (hk : 1 ≤ k) (hj : j ≤ k) (h : Whole fp (viewS S (a + j)) k b n) : n ≤ mostS S a k := by
  obtain ⟨x, hx, hn⟩ := h.first
  rw [view_off, Nat.add_zero] at hx
  rw [← hn]
  exact most_ge (by omega) hx
theorem laidS_length {fp : List UInt8 → List UInt8} {bs : List UInt8} {n k : Nat} {wiped : Bool} (h : cntS bs.length ≤ k) : cntS bs.length ≤ (laidS fp bs n k wiped).length ∧ (laidS fp bs n k wiped).length ≤ k ∧ (wiped = false → (laidS fp bs n k wiped).length = cntS bs.length) ∧ (wiped = true → (laidS fp bs n k wiped).length = k) := by
  unfold laidS
  rw [List.length_append, partsS_length]
  cases wiped with
  | false =>
    show _ ≤ _ + 0 ∧ _ + 0 ≤ k ∧ (_ → _ + 0 = _) ∧ (_ → _ + 0 = _)
    exact ⟨by omega, by omega, fun _ => by omega, fun h => by cases h⟩
  | true =>
    show _ ≤ _ + (List.replicate _ _).length ∧ _ + (List.replicate _ _).length ≤ k ∧ (_ → _ + (List.replicate _ _).length = _) ∧ (_ → _ + (List.replicate _ _).length = _)
    rw [List.length_replicate]
    exact ⟨by omega, by omega, fun h => (by cases h), fun _ => by omega⟩
theorem laidS_part {fp : List UInt8 → List UInt8} {bs : List UInt8} {n k i : Nat} {wiped : Bool} (h : i < cntS bs.length) : (laidS fp bs n k wiped).getD i [] = partS fp bs n i := by
  unfold laidS
  rw [List.getD, List.getElem?_append_left (by rw [partsS_length]; exact h)]
  unfold partsS
  rw [List.getElem?_map, List.getElem?_range h]
  rfl
theorem laidS_behind {fp : List UInt8 → List UInt8} {bs : List UInt8} {n k i : Nat} {wiped : Bool} (h : cntS bs.length ≤ i) : (laidS fp bs n k wiped).getD i [] = [] := by
  unfold laidS
  rw [List.getD, List.getElem?_append_right (by rw [partsS_length]; exact h)]
  cases wiped with
  | false => rfl
  | true =>
    show ((List.replicate _ _)[_]?).getD [] = []
    rw [List.getElem?_replicate]
    split <;> rfl
theorem laidS_short {fp : List UInt8 → List UInt8} (hf : ∀ b, (fp b).length = 8) {bs : List UInt8} {n k : Nat} {wiped : Bool} : ∀ x ∈ laidS fp bs n k wiped, x.length ≤ 128 := by
  intro x hx
  unfold laidS at hx
  rcases List.mem_append.1 hx with h | h
  · unfold partsS at h
    obtain ⟨i, _, rfl⟩ := List.mem_map.1 h
    exact partS_length fp hf bs n i
  · cases wiped with
    | false => cases h
    | true =>
      rw [List.eq_of_mem_replicate h]
      exact Nat.zero_le _
theorem slotN_01 {fp : List UInt8 → List UInt8} {S : DS} {a k : Nat} : slotN (loadS fp S a k) = 0 ∨ slotN (loadS fp S a k) = 1 := by
  unfold loadS loadOf
  split
  · exact .inl rfl
  · split
    · exact .inl rfl
    · exact .inr rfl
  · exact .inr rfl
  · exact .inr rfl
/-- What is loaded when the other slot has come to hold bytes with a greater number. -/
theorem load_new {fp : List UInt8 → List UInt8} {S T : DS} {a k N : Nat} {bs : List UInt8} (hk : 1 ≤ k) (hk2 : k ≤ 1024) (hN : mostS S a k < N)
    (hw : Whole fp (viewS T (a + k * (1 - slotN (loadS fp S a k)))) k bs N) (ho : ∀ i, i < k → viewS T (a + k * slotN (loadS fp S a k)) i = viewS S (a + k * slotN (loadS fp S a k)) i) : loadS fp T a k = some (bs, N, 1 - slotN (loadS fp S a k)) := by
  have hk3 : k < 65536 := by omega
  generalize hs : slotN (loadS fp S a k) = s at hw ho
  have hw2 := (slotOf_some hk3).2 hw
  have ho2 := slotOf_congr (fp := fp) hk3 ho
  unfold loadS at hs ⊢
  cases h0 : slotOf fp (viewS S a) k with
  | none =>
    have es : s = 1 := by
      rw [← hs, h0]
      cases slotOf fp (viewS S (a + k)) k <;> rfl
    subst es
    rw [Nat.mul_one] at ho2
    rw [Nat.sub_self, Nat.mul_zero, Nat.add_zero] at hw2
    rw [hw2, ho2]
    cases h1 : slotOf fp (viewS S (a + k)) k with
    | none => rfl
    | some r =>
      have h2 := whole_most hk (Nat.le_refl k) ((slotOf_some hk3).1 (show slotOf fp (viewS S (a + k)) k = some (r.1, r.2) from h1))
      show (if r.2 ≤ N then some (bs, N, 0) else _) = _
      rw [if_pos (by omega)]
  | some q =>
    have h3 := whole_most hk (Nat.zero_le k) ((slotOf_some hk3).1 (show slotOf fp (viewS S (a + 0)) k = some (q.1, q.2) from h0))
    cases h1 : slotOf fp (viewS S (a + k)) k with
    | none =>
      have es : s = 0 := by
        rw [← hs, h0, h1]
        rfl
      subst es
      rw [Nat.mul_zero, Nat.add_zero] at ho2
      rw [Nat.sub_zero, Nat.mul_one] at hw2
      rw [hw2, ho2, h0]
      show (if N ≤ q.2 then _ else some (bs, N, 1)) = _
      rw [if_neg (by omega)]
    | some r =>
      have h2 := whole_most hk (Nat.le_refl k) ((slotOf_some hk3).1 (show slotOf fp (viewS S (a + k)) k = some (r.1, r.2) from h1))
      by_cases hr : r.2 ≤ q.2
      · have es : s = 0 := by
          rw [← hs, h0, h1]
          show slotN (if r.2 ≤ q.2 then _ else _) = 0
          rw [if_pos hr]
          rfl
        subst es
        rw [Nat.mul_zero, Nat.add_zero] at ho2
        rw [Nat.sub_zero, Nat.mul_one] at hw2
        rw [hw2, ho2, h0]
        show (if N ≤ q.2 then _ else some (bs, N, 1)) = _
        rw [if_neg (by omega)]
      · have es : s = 1 := by
          rw [← hs, h0, h1]
          show slotN (if r.2 ≤ q.2 then _ else _) = 1
          rw [if_neg hr]
          rfl
        subst es
        rw [Nat.mul_one] at ho2
        rw [Nat.sub_self, Nat.mul_zero, Nat.add_zero] at hw2
        rw [hw2, ho2, h1]
        show (if r.2 ≤ N then some (bs, N, 0) else _) = _
        rw [if_pos (by omega)]
/-- .. and when the other slot holds what it held, or nothing that is whole. -/
theorem load_old {fp : List UInt8 → List UInt8} {S T : DS} {a k : Nat} (hk2 : k ≤ 1024)
    (hw : ∀ b n, Whole fp (viewS T (a + k * (1 - slotN (loadS fp S a k)))) k b n → Whole fp (viewS S (a + k * (1 - slotN (loadS fp S a k)))) k b n) (ho : ∀ i, i < k → viewS T (a + k * slotN (loadS fp S a k)) i = viewS S (a + k * slotN (loadS fp S a k)) i) : loadS fp T a k = loadS fp S a k := by
  have hk3 : k < 65536 := by omega
  generalize hs : slotN (loadS fp S a k) = s at hw ho
  have ho2 := slotOf_congr (fp := fp) hk3 ho
  have hw2 : slotOf fp (viewS T (a + k * (1 - s))) k = none ∨ slotOf fp (viewS T (a + k * (1 - s))) k = slotOf fp (viewS S (a + k * (1 - s))) k := by
    cases ht : slotOf fp (viewS T (a + k * (1 - s))) k with
    | none => exact .inl rfl
    | some r => exact .inr ((slotOf_some hk3).2 (hw r.1 r.2 ((slotOf_some hk3).1 (show _ = some (r.1, r.2) from ht)))).symm
  unfold loadS at hs ⊢
  cases h0 : slotOf fp (viewS S a) k with
  | none =>
    have es : s = 1 := by
      rw [← hs, h0]
      cases slotOf fp (viewS S (a + k)) k <;> rfl
    subst es
    rw [Nat.mul_one] at ho2
    rw [Nat.sub_self, Nat.mul_zero, Nat.add_zero, h0] at hw2
    rw [ho2]
    rcases hw2 with e | e <;> rw [e]
  | some q =>
    cases h1 : slotOf fp (viewS S (a + k)) k with
    | none =>
      have es : s = 0 := by
        rw [← hs, h0, h1]
        rfl
      subst es
      rw [Nat.mul_zero, Nat.add_zero] at ho2
      rw [Nat.sub_zero, Nat.mul_one, h1] at hw2
      rw [ho2, h0]
      rcases hw2 with e | e <;> rw [e]
    | some r =>
      by_cases hr : r.2 ≤ q.2
      · have es : s = 0 := by
          rw [← hs, h0, h1]
          show slotN (if r.2 ≤ q.2 then _ else _) = 0
          rw [if_pos hr]
          rfl
        subst es
        rw [Nat.mul_zero, Nat.add_zero] at ho2
        rw [Nat.sub_zero, Nat.mul_one, h1] at hw2
        rw [ho2, h0]
        rcases hw2 with e | e
        · rw [e]
          show some (q.1, q.2, 0) = if r.2 ≤ q.2 then some (q.1, q.2, 0) else _
          rw [if_pos hr]
        · rw [e]
      · have es : s = 1 := by
          rw [← hs, h0, h1]
          show slotN (if r.2 ≤ q.2 then _ else _) = 1
          rw [if_neg hr]
          rfl
        subst es
        rw [Nat.mul_one] at ho2
        rw [Nat.sub_self, Nat.mul_zero, Nat.add_zero, h0] at hw2
        rw [ho2, h1]
        rcases hw2 with e | e
        · rw [e]
          show some (r.1, r.2, 1) = if r.2 ≤ q.2 then _ else some (r.1, r.2, 1)
          rw [if_neg hr]
        · rw [e]
end Go.Proofs.YtbodiioemohenaaDoor

/- A save: what it answers, what is told behind it; whenever the power goes off, the old bytes or the new ones, whole. No program in sight. Conditions: there is room; the number is none that is spent. -/
namespace Go.Proofs.YtbodiioemohenaaDoor
open Go.RowKit

section
variable {fp : List UInt8 → List UInt8} {S : DS} {a k : Nat} {bs : List UInt8} {wiped : Bool}
theorem at_room (fp : List UInt8 → List UInt8) (S : DS) (h2 : a + 2 * k ≤ 1024) : a + k * (1 - slotN (loadS fp S a k)) + k ≤ 1024 ∧ (k * (1 - slotN (loadS fp S a k)) = 0 ∨ k * (1 - slotN (loadS fp S a k)) = k) ∧ (k * slotN (loadS fp S a k) = 0 ∨ k * slotN (loadS fp S a k) = k) ∧ k * (1 - slotN (loadS fp S a k)) + k * slotN (loadS fp S a k) = k := by
  rcases slotN_01 (fp := fp) (S := S) (a := a) (k := k) with h | h
  · rw [h, Nat.sub_zero, Nat.mul_one, Nat.mul_zero]
    omega
  · rw [h, Nat.sub_self, Nat.mul_one, Nat.mul_zero]
    omega
/-- What a save comes to. -/
theorem save_cases (hf : ∀ b, (fp b).length = 8) (hc : Calm S) (h1 : 1 ≤ k) (h2 : a + 2 * k ≤ 1024) (hb : bs.length ≤ 104 * k) :
    (saveS fp S a k bs wiped).1.ops ≤ S.ops + k + 1 ∧
    (((saveS fp S a k bs wiped).2 = 0 ∧ (saveS fp S a k bs wiped).1.dead = false ∧ (saveS fp S a k bs wiped).1.L = (writesL S.L (a + k * (1 - slotN (loadS fp S a k))) (laidS fp bs (mostS S a k + 1) k wiped)).map safeP) ∨
     ((saveS fp S a k bs wiped).2 = 10 ∧ (saveS fp S a k bs wiped).1.dead = true ∧ ∃ j, (saveS fp S a k bs wiped).1.L = writesL S.L (a + k * (1 - slotN (loadS fp S a k))) ((laidS fp bs (mostS S a k + 1) k wiped).take j))) := by
  have hr := at_room fp S h2
  have hcnt := cntS_le hb h1
  have hlen := laidS_length (fp := fp) (n := mostS S a k + 1) (wiped := wiped) hcnt
  obtain ⟨j, k1, k2, k3, k4⟩ := writesS_is (laidS fp bs (mostS S a k + 1) k wiped) S (a + k * (1 - slotN (loadS fp S a k))) hc.on (by omega) (laidS_short hf)
  unfold saveS
  generalize hg : writesS S (a + k * (1 - slotN (loadS fp S a k))) (laidS fp bs (mostS S a k + 1) k wiped) = r at k2 k3 k4
  dsimp only
  rcases k4 with ⟨k5, k6, k7⟩ | ⟨k5, k6⟩
  · rw [if_pos k5]
    rw [k7, List.take_of_length_le (Nat.le_refl _)] at k2
    unfold syncS
    rw [if_neg (by rw [k6]; decide)]
    dsimp only
    rcases burn_dead r.1 k6 with ⟨h3, h4⟩ | ⟨h3, h4⟩
    · rw [if_pos h3]
      refine ⟨?_, .inr ⟨rfl, h4, j, ?_⟩⟩
      · show (burnS r.1).1.ops ≤ _
        rw [burnS_ops]
        omega
      · show (burnS r.1).1.L = _
        rw [burnS_L, k2, k7, List.take_of_length_le (Nat.le_refl _)]
    · rw [if_neg (by rw [h3]; decide)]
      refine ⟨?_, .inl ⟨rfl, h4, ?_⟩⟩
      · show (burnS r.1).1.ops ≤ _
        rw [burnS_ops]
        omega
      · show ((burnS r.1).1.L).map safeP = _
        rw [burnS_L, k2]
  · rw [if_neg (by rw [k5]; decide)]
    exact ⟨by omega, .inr ⟨k5, k6, j, k2⟩⟩
theorem laid_some {fp : List UInt8 → List UInt8} (hf : ∀ b, (fp b).length = 8) {bs : List UInt8} {n k i : Nat} {wiped : Bool} (hn : n < 256 ^ 8) : numOf (pad128 ((laidS fp bs n k wiped).getD i [])) ≤ n := by
  rcases Nat.lt_or_ge i (cntS bs.length) with h | h
  · rw [laidS_part h, numOf_hdr (part_take hf bs n i) hn]
    exact Nat.le_refl _
  · rw [laidS_behind h]
    exact Nat.zero_le _
/-- A save that is done. -/
theorem save_done (hf : ∀ b, (fp b).length = 8) (hc : Calm S) (h1 : 1 ≤ k) (h2 : a + 2 * k ≤ 1024) (hb : bs.length ≤ 104 * k) (hm : mostS S a k < 256 ^ 8 - 1) (he : (saveS fp S a k bs wiped).2 = 0) :
    Calm (saveS fp S a k bs wiped).1 ∧ loadS fp (saveS fp S a k bs wiped).1 a k = some (bs, mostS S a k + 1, 1 - slotN (loadS fp S a k)) ∧ mostS (saveS fp S a k bs wiped).1 a k = mostS S a k + 1 ∧
    (∀ i, i < k → viewS (saveS fp S a k bs wiped).1 (a + k * slotN (loadS fp S a k)) i = viewS S (a + k * slotN (loadS fp S a k)) i) ∧
    (∀ i, i < (laidS fp bs (mostS S a k + 1) k wiped).length → viewS (saveS fp S a k bs wiped).1 (a + k * (1 - slotN (loadS fp S a k))) i = some (pad128 ((laidS fp bs (mostS S a k + 1) k wiped).getD i []))) := by
  have hr := at_room fp S h2
  have hcnt := cntS_le hb h1
  have hlen := laidS_length (fp := fp) (n := mostS S a k + 1) (wiped := wiped) hcnt
  obtain ⟨_, h3⟩ := save_cases (wiped := wiped) hf hc h1 h2 hb
  rcases h3 with ⟨_, h4, h5⟩ | ⟨h3, _⟩
  · generalize hT : (saveS fp S a k bs wiped).1 = T at h4 h5
    have hv := fun b i => view_safe S T rfl (a + k * (1 - slotN (loadS fp S a k))) _ h5 b i
    have hvo : ∀ i, i < k → viewS T (a + k * slotN (loadS fp S a k)) i = viewS S (a + k * slotN (loadS fp S a k)) i := fun i hi => by
      rw [hv, if_neg (by omega)]
    have hvn : ∀ i, i < (laidS fp bs (mostS S a k + 1) k wiped).length → viewS T (a + k * (1 - slotN (loadS fp S a k))) i = some (pad128 ((laidS fp bs (mostS S a k + 1) k wiped).getD i [])) := fun i hi => by
      rw [hv, if_pos (by omega)]
      congr 3
      omega
    have hw : Whole fp (viewS T (a + k * (1 - slotN (loadS fp S a k)))) k bs (mostS S a k + 1) := whole_laid hf hb h1 (by omega) (by omega) fun i hi => by
      rw [hvn i (by omega), laidS_part hi]
    have hdok : DOk T := by
      have h6 := dok_map (dok_writes (laidS fp bs (mostS S a k + 1) k wiped) (a + k * (1 - slotN (loadS fp S a k))) hc.ok (by omega) (laidS_short hf)) (f := safeP) (fun _ => rfl) fun _ hp => hp
      exact dok_of h6 h5
    have hcalm : Calm T := ⟨h4, by rw [h5]; exact shut_safe _, by rw [h5]; exact opn_safe _, hdok⟩
    have hmost : mostS T a k = mostS S a k + 1 := by
      refine Nat.le_antisymm (most_le fun i x hi hx => ?_) ?_
      · rw [hv] at hx
        split at hx
        · injection hx with hx
          rw [← hx]
          exact laid_some hf (by omega)
        · have := most_ge hi hx
          omega
      · have h7 := hvn 0 (by have := cntS_pos bs.length; omega)
        rw [laidS_part (cntS_pos _), view_off, Nat.add_zero] at h7
        have h8 := most_ge (S := T) (a := a) (k := k) (by omega) h7
        rw [numOf_hdr (part_take hf bs _ 0) (by omega)] at h8
        exact h8
    exact ⟨hcalm, load_new h1 (by omega) (Nat.lt_succ_self _) hw hvo, hmost, hvo, hvn⟩
  · rw [he] at h3
    cases h3
/-- A save that the fuse cut off, and the power's return. -/
theorem save_cut (hf : ∀ b, (fp b).length = 8) (hc : Calm S) (h1 : 1 ≤ k) (h2 : a + 2 * k ≤ 1024) (hb : bs.length ≤ 104 * k) (hm : mostS S a k < 256 ^ 8 - 1) (he : (saveS fp S a k bs false).2 = 10) (fs : List UInt8) :
    Calm (bootS (saveS fp S a k bs false).1 fs) ∧ mostS (bootS (saveS fp S a k bs false).1 fs) a k ≤ mostS S a k + 1 ∧
    (loadS fp (bootS (saveS fp S a k bs false).1 fs) a k = loadS fp S a k ∨ loadS fp (bootS (saveS fp S a k bs false).1 fs) a k = some (bs, mostS S a k + 1, 1 - slotN (loadS fp S a k))) := by
  have hr := at_room fp S h2
  have hcnt := cntS_le hb h1
  have hlen := laidS_length (fp := fp) (n := mostS S a k + 1) (wiped := false) hcnt
  obtain ⟨_, h3⟩ := save_cases (wiped := false) hf hc h1 h2 hb
  rcases h3 with ⟨h3, _⟩ | ⟨_, h4, j, h5⟩
  · rw [he] at h3
    cases h3
  · generalize hT : (saveS fp S a k bs false).1 = T at h4 h5
    have hjl : ((laidS fp bs (mostS S a k + 1) k false).take j).length ≤ cntS bs.length := by
      rw [List.length_take, hlen.2.2.1 rfl]
      omega
    have hdok : DOk T := dok_of (dok_writes ((laidS fp bs (mostS S a k + 1) k false).take j) (a + k * (1 - slotN (loadS fp S a k))) hc.ok (by omega) fun x hx => laidS_short hf x (List.mem_of_mem_take hx)) h5
    have hv := fun b i => view_fates hc (a + k * (1 - slotN (loadS fp S a k))) _ h5 hdok.rise fs b i
    have hvo : ∀ i, i < k → viewS (bootS T fs) (a + k * slotN (loadS fp S a k)) i = viewS S (a + k * slotN (loadS fp S a k)) i := fun i hi => by
      rcases hv (a + k * slotN (loadS fp S a k)) i with h | ⟨h, _⟩
      · exact h
      · omega
    have hmix : ∀ i, i < k → viewS (bootS T fs) (a + k * (1 - slotN (loadS fp S a k))) i = viewS S (a + k * (1 - slotN (loadS fp S a k))) i ∨ (i < cntS bs.length ∧ (viewS (bootS T fs) (a + k * (1 - slotN (loadS fp S a k))) i = some (pad128 (partS fp bs (mostS S a k + 1) i)) ∨ viewS (bootS T fs) (a + k * (1 - slotN (loadS fp S a k))) i = none)) := fun i hi => by
      rcases hv (a + k * (1 - slotN (loadS fp S a k))) i with h | ⟨h, h'⟩
      · exact .inl h
      · right
        have hij : i < ((laidS fp bs (mostS S a k + 1) k false).take j).length := by omega
        refine ⟨by omega, ?_⟩
        rcases h' with h' | h'
        · left
          rw [h', show a + k * (1 - slotN (loadS fp S a k)) + i - (a + k * (1 - slotN (loadS fp S a k))) = i by omega]
          rw [List.length_take] at hij
          rw [List.getD, List.getElem?_take, if_pos (by omega)]
          rw [← List.getD, laidS_part (by omega)]
        · exact .inr h'
    have hold : ∀ i x, i < k → viewS S (a + k * (1 - slotN (loadS fp S a k))) i = some x → numOf x < mostS S a k + 1 := fun i x hi hx => by
      rw [view_off] at hx
      have := most_ge (k := k) (by omega) hx
      omega
    have hw := fun b n => whole_mixed (b := b) (m := n) hf hb h1 (by omega) (by omega) hold hmix
    refine ⟨calm_boot hdok fs, most_le fun i x hi hx => ?_, ?_⟩
    · rcases hv a i with h | ⟨h, h' | h'⟩
      · rw [h] at hx
        have := most_ge hi hx
        omega
      · rw [h'] at hx
        injection hx with hx
        rw [← hx]
        rcases Nat.lt_or_ge (a + i - (a + k * (1 - slotN (loadS fp S a k)))) j with hj | hj
        · rw [List.getD, List.getElem?_take, if_pos hj, ← List.getD]
          exact laid_some hf (by omega)
        · rw [List.getD, List.getElem?_take, if_neg (by omega)]
          exact Nat.zero_le _
      · rw [h'] at hx
        cases hx
    · by_cases hn : Whole fp (viewS (bootS T fs) (a + k * (1 - slotN (loadS fp S a k)))) k bs (mostS S a k + 1)
      · exact .inr (load_new h1 (by omega) (Nat.lt_succ_self _) hn hvo)
      · left
        refine load_old (by omega) (fun b n hb => ?_) hvo
        rcases hw b n hb with h | ⟨rfl, rfl⟩
        · exact h
        · exact absurd hb hn
end
end Go.Proofs.YtbodiioemohenaaDoor

/- A journal's records on a disk, reckoned: what a record is, which stand, one behind the other. No program in sight, no condition of its own. -/
namespace Go.Proofs.YtbodiioemohenaaDoor
open Go.RowKit

/-- How many parts a record of so many bytes has. -/
def cntR (l : Nat) : Nat := if l = 0 then 1 else (l + 107) / 108
theorem cntR_pos (l : Nat) : 1 ≤ cntR l := by
  unfold cntR
  split
  · exact Nat.le_refl _
  · omega
theorem cntR_ge (l : Nat) : l ≤ 108 * cntR l := by
  unfold cntR
  split
  · omega
  · omega
/-- A record's sector's first bytes: the epoch, the number, the place, how many parts, how many bytes. -/
def hdrR (n nu i c l : Nat) : List UInt8 := leB 8 n ++ leB 4 nu ++ leB 2 i ++ leB 2 c ++ leB 4 l
theorem hdrR_length (n nu i c l : Nat) : (hdrR n nu i c l).length = 20 := by simp [hdrR, leB_length]
def partR (b : List UInt8) (n nu i : Nat) : List UInt8 := hdrR n nu i (cntR b.length) b.length ++ (b.drop (108 * i)).take 108
def partsR (b : List UInt8) (n nu : Nat) : List (List UInt8) := (List.range (cntR b.length)).map (partR b n nu)
theorem partsR_length (b : List UInt8) (n nu : Nat) : (partsR b n nu).length = cntR b.length := by simp [partsR]
theorem partR_length (b : List UInt8) (n nu i : Nat) : (partR b n nu i).length ≤ 128 := by
  unfold partR
  rw [List.length_append, hdrR_length, List.length_take]
  omega
theorem partsR_get {b : List UInt8} {n nu i : Nat} (h : i < cntR b.length) : (partsR b n nu).getD i [] = partR b n nu i := by
  unfold partsR
  rw [List.getD, List.getElem?_map, List.getElem?_range h]
  rfl
def numR (x : List UInt8) : Nat := numB ((x.drop 8).take 4)
def cnR (x : List UInt8) : Nat := numB ((x.drop 14).take 2)
def lnR (x : List UInt8) : Nat := numB ((x.drop 16).take 4)
theorem numOf_hdrR {x : List UInt8} {n nu i c l : Nat} (h : x.take 20 = hdrR n nu i c l) (hn : n < 256 ^ 8) : numOf x = n := by
  have e : x.take 8 = (x.take 20).take 8 := by rw [List.take_take]; rfl
  unfold numOf
  rw [e, h]
  unfold hdrR
  rw [List.append_assoc, List.append_assoc, List.append_assoc, List.take_append_of_le_length (by rw [leB_length]; omega), List.take_of_length_le (by rw [leB_length]; omega)]
  exact numB_le 8 n hn
theorem cnR_hdr {x : List UInt8} {n nu i c l : Nat} (h : x.take 20 = hdrR n nu i c l) (hc : c < 256 ^ 2) : cnR x = c := by
  have e : (x.drop 14).take 2 = ((x.take 20).drop 14).take 2 := by
    rw [List.drop_take, List.take_take]
    rfl
  unfold cnR
  rw [e, h]
  unfold hdrR
  rw [List.append_assoc, List.drop_left' (by simp [leB_length]), List.take_append_of_le_length (by rw [leB_length]; omega), List.take_of_length_le (by rw [leB_length]; omega)]
  exact numB_le 2 c hc
theorem lnR_hdr {x : List UInt8} {n nu i c l : Nat} (h : x.take 20 = hdrR n nu i c l) (hl : l < 256 ^ 4) : lnR x = l := by
  have e : (x.drop 16).take 4 = ((x.take 20).drop 16).take 4 := by
    rw [List.drop_take, List.take_take]
    rfl
  unfold lnR
  rw [e, h]
  unfold hdrR
  rw [List.drop_left' (by simp [leB_length]), List.take_of_length_le (by rw [leB_length]; omega)]
  exact numB_le 4 l hl
def bodyR (V : View) (p c : Nat) : List UInt8 := ((List.range c).map fun i => ((V (p + i)).getD []).drop 20).flatten
/-- A record stands at a sector. -/
structure RecAt (V : View) (n nu p : Nat) (b : List UInt8) : Prop where
  room : p + cntR b.length ≤ 1024
  nn : n < 256 ^ 8
  ll : b.length < 256 ^ 4
  head : ∀ i, i < cntR b.length → ∃ x, V (p + i) = some x ∧ x.take 20 = hdrR n nu i (cntR b.length) b.length
  body : b = (bodyR V p (cntR b.length)).take b.length
theorem RecAt.one {V : View} {n nu p : Nat} {b c : List UInt8} (h : RecAt V n nu p b) (g : RecAt V n nu p c) : b = c := by
  obtain ⟨x, hx, ex⟩ := h.head 0 (cntR_pos _)
  obtain ⟨y, hy, ey⟩ := g.head 0 (cntR_pos _)
  rw [hx] at hy
  injection hy with hy
  subst hy
  have h1 := h.room
  have h2 := g.room
  have e2 : cntR b.length = cntR c.length := by rw [← cnR_hdr ex (by omega), cnR_hdr ey (by omega)]
  have e3 : b.length = c.length := by rw [← lnR_hdr ex h.ll, lnR_hdr ey g.ll]
  rw [h.body, g.body, e2, e3]
theorem RecAt.congr {V W : View} {n nu p : Nat} {b : List UInt8} (h : RecAt V n nu p b) (hv : ∀ i, p ≤ i → i < p + cntR b.length → W i = V i) : RecAt W n nu p b := by
  refine ⟨h.room, h.nn, h.ll, fun i hi => ?_, ?_⟩
  · rw [hv (p + i) (by omega) (by omega)]
    exact h.head i hi
  · have e : bodyR W p (cntR b.length) = bodyR V p (cntR b.length) := by
      unfold bodyR
      congr 1
      apply List.map_congr_left
      intro i hi
      have := List.mem_range.1 hi
      rw [hv (p + i) (by omega) (by omega)]
    rw [e]
    exact h.body
theorem partR_take (b : List UInt8) (n nu i : Nat) : (pad128 (partR b n nu i)).take 20 = hdrR n nu i (cntR b.length) b.length := by
  have h := hdrR_length n nu i (cntR b.length) b.length
  unfold pad128 partR
  rw [List.append_assoc, List.take_append_of_le_length (by omega), List.take_of_length_le (by omega)]
theorem partR_drop (b : List UInt8) (n nu i : Nat) : (pad128 (partR b n nu i)).drop 20 = (b.drop (108 * i)).take 108 ++ List.replicate (108 - (b.length - 108 * i)) 0 := by
  have h := hdrR_length n nu i (cntR b.length) b.length
  unfold pad128 partR
  rw [List.append_assoc, List.drop_left' h]
  congr 2
  rw [List.length_append, h, List.length_take, List.length_drop]
  omega
theorem cut_bodyR : ∀ (c : Nat) (b : List UInt8), b.length ≤ 108 * c → ((List.range c).map fun i => (b.drop (108 * i)).take 108 ++ List.replicate (108 - (b.length - 108 * i)) (0 : UInt8)).flatten = b ++ List.replicate (108 * c - b.length) 0
  | 0, b, h => by
    have : b = [] := List.eq_nil_of_length_eq_zero (by omega)
    subst this
    rfl
  | c + 1, b, h => by
    rw [List.range_succ_eq_map, List.map_cons, List.flatten_cons, List.map_map]
    have ih := cut_bodyR c (b.drop 108) (by rw [List.length_drop]; omega)
    have e : ((fun i => (b.drop (108 * i)).take 108 ++ List.replicate (108 - (b.length - 108 * i)) (0 : UInt8)) ∘ Nat.succ) = fun i => ((b.drop 108).drop (108 * i)).take 108 ++ List.replicate (108 - ((b.drop 108).length - 108 * i)) (0 : UInt8) := by
      funext i
      show (b.drop (108 * (i + 1))).take 108 ++ List.replicate (108 - (b.length - 108 * (i + 1))) (0 : UInt8) = _
      rw [List.drop_drop, List.length_drop, show 108 * (i + 1) = 108 + 108 * i by omega, show b.length - (108 + 108 * i) = b.length - 108 - 108 * i by omega]
    rw [e, ih, Nat.mul_zero, List.drop_zero, List.length_drop]
    by_cases hl : 108 ≤ b.length
    · rw [show 108 - (b.length - 0) = 0 by omega, List.replicate_zero, List.append_nil, ← List.append_assoc, List.take_append_drop]
      congr 2
      omega
    · rw [List.take_of_length_le (by omega), List.drop_of_length_le (by omega), List.append_assoc, List.nil_append, List.replicate_append_replicate]
      congr 2
      omega
/-- A record that has been laid stands. -/
theorem rec_laid {V : View} {n nu p : Nat} {b : List UInt8} (hp : p + cntR b.length ≤ 1024) (hn : n < 256 ^ 8) (hl : b.length < 256 ^ 4) (hv : ∀ i, i < cntR b.length → V (p + i) = some (pad128 (partR b n nu i))) : RecAt V n nu p b := by
  refine ⟨hp, hn, hl, fun i hi => ⟨_, hv i hi, partR_take b n nu i⟩, ?_⟩
  have e : bodyR V p (cntR b.length) = b ++ List.replicate (108 * cntR b.length - b.length) 0 := by
    rw [← cut_bodyR (cntR b.length) b (cntR_ge _)]
    unfold bodyR
    congr 1
    apply List.map_congr_left
    intro i hi
    rw [hv i (List.mem_range.1 hi)]
    exact partR_drop b n nu i
  rw [e, List.take_append_of_le_length (Nat.le_refl _), List.take_of_length_le (Nat.le_refl _)]
theorem rec_none {V : View} {n nu p : Nat} {b : List UInt8} (h : ∀ x, V p = some x → numOf x ≠ n) : ¬ RecAt V n nu p b := fun hr => by
  obtain ⟨x, hx, ex⟩ := hr.head 0 (cntR_pos _)
  exact h x hx (numOf_hdrR ex hr.nn)
/-- What stands of a record that was laid over elder sectors in part: it, or none. -/
theorem rec_mixed {W : View} {n nu p : Nat} {b c : List UInt8} (hp : p + cntR b.length ≤ 1024) (hn : n < 256 ^ 8) (hl : b.length < 256 ^ 4)
    (hmix : ∀ i, i < cntR b.length → (∀ x, W (p + i) = some x → numOf x ≠ n) ∨ W (p + i) = some (pad128 (partR b n nu i))) (hr : RecAt W n nu p c) : RecAt W n nu p b := by
  refine rec_laid hp hn hl fun i hi => ?_
  have h0 : W (p + 0) = some (pad128 (partR b n nu 0)) := by
    obtain ⟨x, hx, ex⟩ := hr.head 0 (cntR_pos _)
    rcases hmix 0 (cntR_pos _) with h | h
    · exact absurd (numOf_hdrR ex hr.nn) (h x hx)
    · exact h
  have ec : cntR c.length = cntR b.length := by
    obtain ⟨x, hx, ex⟩ := hr.head 0 (cntR_pos _)
    rw [h0] at hx
    injection hx with hx
    have et := partR_take b n nu 0
    rw [hx] at et
    have h1 := hr.room
    rw [← cnR_hdr ex (by omega), cnR_hdr et (by omega)]
  obtain ⟨x, hx, ex⟩ := hr.head i (by omega)
  rcases hmix i hi with h | h
  · exact absurd (numOf_hdrR ex hr.nn) (h x hx)
  · exact h
/-- Records stand, one behind the other. -/
def Stand (V : View) (n : Nat) : Nat → Nat → List (List UInt8) → Prop
  | _, _, [] => True
  | nu, p, r :: rs => RecAt V n nu p r ∧ Stand V n (nu + 1) (p + cntR r.length) rs
def endR : Nat → List (List UInt8) → Nat
  | p, [] => p
  | p, r :: rs => endR (p + cntR r.length) rs
/-- These are the records. -/
def Recs (V : View) (n nu p : Nat) (rs : List (List UInt8)) : Prop := Stand V n nu p rs ∧ ∀ b, ¬ RecAt V n (nu + rs.length) (endR p rs) b
theorem Recs.one {V : View} {n : Nat} : ∀ {nu p : Nat} {rs qs : List (List UInt8)}, Recs V n nu p rs → Recs V n nu p qs → rs = qs
  | _, _, [], [], _, _ => rfl
  | nu, p, [], q :: qs, h, g => absurd g.1.1 (h.2 q)
  | nu, p, r :: rs, [], h, g => absurd h.1.1 (g.2 r)
  | nu, p, r :: rs, q :: qs, h, g => by
    obtain rfl := h.1.1.one g.1.1
    have h2 : Recs V n (nu + 1) (p + cntR r.length) rs := ⟨h.1.2, fun b hb => h.2 b (by rw [List.length_cons, show nu + (rs.length + 1) = nu + 1 + rs.length by omega]; exact hb)⟩
    have g2 : Recs V n (nu + 1) (p + cntR r.length) qs := ⟨g.1.2, fun b hb => g.2 b (by rw [List.length_cons, show nu + (qs.length + 1) = nu + 1 + qs.length by omega]; exact hb)⟩
    rw [Recs.one h2 g2]
theorem endR_ge : ∀ (rs : List (List UInt8)) (p : Nat), p ≤ endR p rs
  | [], p => Nat.le_refl p
  | _r :: rs, p => Nat.le_trans (Nat.le_add_right p _) (endR_ge rs _)
theorem endR_snoc : ∀ (rs : List (List UInt8)) (p : Nat) (r : List UInt8), endR p (rs ++ [r]) = endR p rs + cntR r.length
  | [], _p, _r => rfl
  | _q :: rs, _p, r => endR_snoc rs _ r
theorem Stand.congr {V W : View} {n : Nat} : ∀ {nu p : Nat} {rs : List (List UInt8)}, Stand V n nu p rs → (∀ i, p ≤ i → i < endR p rs → W i = V i) → Stand W n nu p rs
  | _, _, [], _, _ => trivial
  | nu, p, r :: rs, h, hv => by
    have h1 := endR_ge rs (p + cntR r.length)
    exact ⟨h.1.congr fun i h2 h3 => hv i h2 (Nat.lt_of_lt_of_le h3 h1), Stand.congr h.2 fun i h2 h3 => hv i (by omega) h3⟩
theorem Stand.snoc {V : View} {n : Nat} : ∀ {nu p : Nat} {rs : List (List UInt8)} {r : List UInt8}, Stand V n nu p rs → RecAt V n (nu + rs.length) (endR p rs) r → Stand V n nu p (rs ++ [r])
  | _, _, [], r, _, h => ⟨h, trivial⟩
  | nu, p, q :: rs, r, h, g => ⟨h.1, Stand.snoc h.2 (by rw [show nu + 1 + rs.length = nu + (q :: rs).length by rw [List.length_cons]; omega]; exact g)⟩
end Go.Proofs.YtbodiioemohenaaDoor
