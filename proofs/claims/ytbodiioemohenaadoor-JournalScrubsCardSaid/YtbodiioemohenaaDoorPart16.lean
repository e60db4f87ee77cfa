/- Part 16 of the words that the laws share: SlEx, SlWipe. No condition of its own: each theorem says its own. -/
import Derived.Test.YtbodiioemohenaaDoorPart15

/- Saves of a disk without a fuse; the document's example. No program in sight. Conditions: there is room. -/
namespace Go.Proofs.YtbodiioemohenaaDoor
open Go.RowKit

theorem burn_none {S : DS} (h : S.fuse = 0) : (burnS S).2 = false ∧ (burnS S).1.fuse = 0 := by
  unfold burnS
  rw [if_neg (by omega)]
  exact ⟨rfl, h⟩
theorem writeS_none {S : DS} (hd : S.dead = false) (h : S.fuse = 0) {a : Nat} (ha : a < 1024) {x : List UInt8} (hx : x.length ≤ 128) : (writeS S (a : Int) x).2 = 0 ∧ (writeS S (a : Int) x).1.fuse = 0 := by
  have e : writeS S (a : Int) x = ((burnS { S with L := writeL S.L a x }).1, if (burnS { S with L := writeL S.L a x }).2 then 10 else 0) := by
    unfold writeS
    rw [if_neg (by rw [hd]; decide), if_neg (by omega), if_neg (by omega)]
    rfl
  rw [e]
  obtain ⟨h1, h2⟩ := burn_none (S := { S with L := writeL S.L a x }) h
  exact ⟨by rw [h1]; rfl, h2⟩
theorem writesS_none : ∀ (xs : List (List UInt8)) (S : DS) (a : Nat), S.dead = false → S.fuse = 0 → a + xs.length ≤ 1024 → (∀ x ∈ xs, x.length ≤ 128) → (writesS S a xs).2 = 0 ∧ (writesS S a xs).1.fuse = 0 ∧ (writesS S a xs).1.dead = false
  | [], _, _, hd, hf, _, _ => ⟨rfl, hf, hd⟩
  | x :: xs, S, a, hd, hf, ha, hx => by
    rw [List.length_cons] at ha
    obtain ⟨h1, h2⟩ := writeS_none hd hf (a := a) (by omega) (hx x (List.mem_cons_self ..))
    obtain ⟨_, _, h3⟩ := writeS_is hd (a := a) (by omega) (hx x (List.mem_cons_self ..))
    have h4 : (writeS S (a : Int) x).1.dead = false := by
      rcases h3 with ⟨h3, _⟩ | ⟨_, h3⟩
      · rw [h1] at h3
        cases h3
      · exact h3
    have e : writesS S a (x :: xs) = writesS (writeS S (a : Int) x).1 (a + 1) xs := by
      show (if (writeS S (a : Int) x).2 = 0 then _ else _) = _
      rw [if_pos h1]
    rw [e]
    exact writesS_none xs _ (a + 1) h4 h2 (by omega) fun y hy => hx y (List.mem_cons_of_mem _ hy)
theorem save_none {fp : List UInt8 → List UInt8} (hf : ∀ b, (fp b).length = 8) {S : DS} {a k : Nat} {bs : List UInt8} {wiped : Bool} (hd : S.dead = false) (h0 : S.fuse = 0) (h1 : 1 ≤ k) (h2 : a + 2 * k ≤ 1024) (hb : bs.length ≤ 104 * k) :
    (saveS fp S a k bs wiped).2 = 0 ∧ (saveS fp S a k bs wiped).1.fuse = 0 := by
  have hr := at_room fp S h2
  have hlen := laidS_length (fp := fp) (n := mostS S a k + 1) (wiped := wiped) (cntS_le hb h1)
  obtain ⟨h3, h4, h5⟩ := writesS_none (laidS fp bs (mostS S a k + 1) k wiped) S (a + k * (1 - slotN (loadS fp S a k))) hd h0 (by omega) (laidS_short hf)
  unfold saveS
  dsimp only
  rw [if_pos h3]
  unfold syncS
  rw [if_neg (by rw [h5]; decide)]
  dsimp only
  obtain ⟨h6, h7⟩ := burn_none h4
  rw [if_neg (by rw [h6]; decide)]
  exact ⟨rfl, h7⟩
theorem calm_new : Calm newS := ⟨rfl, fun _ _ h => (by cases h), opn_nil, dok_new⟩
theorem view_new (a i : Nat) : viewS newS a i = some z128 := rfl
theorem most_new (a k : Nat) : mostS newS a k = 0 := by
  refine Nat.le_antisymm (most_le fun i x _ hx => ?_) (Nat.zero_le _)
  rw [view_new] at hx
  injection hx with hx
  rw [← hx]
  decide
theorem load_new0 (fp : List UInt8 → List UInt8) (a k : Nat) : loadS fp newS a k = none := by
  have h : ∀ b, slotOf fp (viewS newS b) k = none := fun b => slotOf_none.2 fun bs n hw => by
    obtain ⟨c, h1, h2, h3, h4, h5, h6⟩ := hw
    obtain ⟨x, hx, ex⟩ := h4 0 (by rw [h2]; exact cntS_pos _)
    rw [view_new] at hx
    injection hx with hx
    subst hx
    have h7 : lenOf z128 = bs.length := lenOf_hdr ex h6
    have h8 : lenOf z128 = 0 := by decide
    have h9 : c = 1 := by
      rw [h2, ← h7, h8]
      rfl
    have h10 := cntOf_hdr ex (by omega)
    have h11 : cntOf z128 = 0 := by decide
    omega
  unfold loadS
  rw [h, h]
  rfl
/-- A sector written, not synced, and torn. -/
theorem view_torn {S S' : DS} (hc : Calm S) (q : Nat) (x : List UInt8) (hS' : S'.L = writesL S.L q [x]) (hr : S'.L.Pairwise fun p q => p.plc < q.plc) (fs : List UInt8) (hfs : ∀ j, fate fs j = 2) (b i : Nat) :
    viewS (bootS S' fs) b i = if b + i = q then none else viewS S b i := by
  by_cases h : b + i = q
  · rw [if_pos h]
    have e : ∃ p, getP (bootL fs 0 S'.L) ((b + i : Nat) : Int) = some p ∧ p.torn = true := by
      have hin : q ≤ b + i ∧ b + i < q + [x].length := ⟨by omega, by rw [List.length_singleton]; omega⟩
      refine ⟨bootP (putP ((getP S.L ((b + i : Nat) : Int)).getD (blank (b + i))) ([x].getD (b + i - q) [])) 2, ?_, rfl⟩
      rw [getP_boot fs S'.L 0 _ hr, hS', getP_writesL, if_pos hin]
      show some (bootP _ (fate fs _)) = _
      rw [hfs]
    obtain ⟨p, hp, ht⟩ := e
    unfold viewS sectW bootS
    show (if (getP (bootL fs 0 S'.L) ((b + i : Nat) : Int)).elim true (fun p => !p.torn) then _ else none) = none
    rw [hp]
    show (if (!p.torn) = true then _ else none) = none
    rw [ht]
    rfl
  · rw [if_neg h]
    rcases view_fates hc q [x] hS' hr fs b i with h1 | ⟨h1, _⟩
    · exact h1
    · rw [List.length_singleton] at h1
      omega
theorem load_slot0 {fp : List UInt8 → List UInt8} {S : DS} {a k n : Nat} {b : List UInt8} (hk : k < 65536) (h : loadS fp S a k = some (b, n, 0)) : Whole fp (viewS S a) k b n := by
  unfold loadS at h
  rw [← slotOf_some hk]
  cases h0 : slotOf fp (viewS S a) k with
  | none =>
    rw [h0] at h
    cases h1 : slotOf fp (viewS S (a + k)) k with
    | none => rw [h1] at h; cases h
    | some r => rw [h1] at h; injection h with h; injection h with _ h; injection h with _ h; cases h
  | some q =>
    rw [h0] at h
    cases h1 : slotOf fp (viewS S (a + k)) k with
    | none =>
      rw [h1] at h
      injection h with h
      injection h with e1 h
      injection h with e2 _
      rw [← e1, ← e2]
    | some r =>
      rw [h1] at h
      have h : (if r.2 ≤ q.2 then some (q.1, q.2, 0) else some (r.1, r.2, 1)) = some (b, n, 0) := h
      split at h
      · injection h with h
        injection h with e1 h
        injection h with e2 _
        rw [← e1, ← e2]
      · injection h with h; injection h with _ h; injection h with _ h; cases h
/-- The example: "a", "b", the last sector torn: "a". -/
theorem slot_example {fp : List UInt8 → List UInt8} (hf : ∀ b, (fp b).length = 8) {S1 S2 S3 : DS} {e1 e2 e3 : Nat} (h1 : saveS fp newS 5 2 [97] false = (S1, e1)) (h2 : saveS fp S1 5 2 [98] false = (S2, e2)) (h3 : writeS S2 7 [] = (S3, e3)) :
    mostS newS 5 2 = 0 ∧ e1 = 0 ∧ mostS S1 5 2 = 1 ∧ e2 = 0 ∧ S1.dead = false ∧ S2.dead = false ∧ S1.ops ≤ 10 ∧ S2.ops ≤ 20 ∧ loadS fp (bootS S3 [2]) 5 2 = some ([97], 1, 0) := by
  have m0 := most_new 5 2
  obtain ⟨a1, a2⟩ := save_none (wiped := false) hf (S := newS) (a := 5) (k := 2) (bs := [97]) rfl rfl (by decide) (by decide) (by decide)
  obtain ⟨b1, b2, b3, b4, b5⟩ := save_done (wiped := false) hf calm_new (a := 5) (k := 2) (bs := [97]) (by decide) (by decide) (by decide) (by rw [m0]; decide) a1
  have o1 := (save_cases (wiped := false) hf calm_new (a := 5) (k := 2) (bs := [97]) (by decide) (by decide) (by decide)).1
  rw [h1] at a1 a2 b1 b2 b3 b4 b5 o1
  rw [m0] at b2 b3
  rw [load_new0] at b2
  have a1 : e1 = 0 := a1
  have b2 : loadS fp S1 5 2 = some ([97], 1, 0) := b2
  have b3 : mostS S1 5 2 = 1 := b3
  obtain ⟨c1, c2⟩ := save_none (wiped := false) hf (S := S1) (a := 5) (k := 2) (bs := [98]) b1.on a2 (by decide) (by decide) (by decide)
  obtain ⟨d1, d2, d3, d4, d5⟩ := save_done (wiped := false) hf b1 (a := 5) (k := 2) (bs := [98]) (by decide) (by decide) (by decide) (by rw [b3]; decide) c1
  have o2 := (save_cases (wiped := false) hf b1 (a := 5) (k := 2) (bs := [98]) (by decide) (by decide) (by decide)).1
  rw [h2] at c1 c2 d1 d2 d3 d4 d5 o2
  rw [b2] at d4
  have c1 : e2 = 0 := c1
  have o1 : S1.ops ≤ 0 + 2 + 1 := o1
  have o2 : S2.ops ≤ S1.ops + 2 + 1 := o2
  refine ⟨m0, a1, b3, c1, b1.on, d1.on, by omega, by omega, ?_⟩
  obtain ⟨g1, _, _⟩ := writeS_is d1.on (a := 7) (by decide) (x := []) (by decide)
  have g1 : (writeS S2 7 []).1.L = writeL S2.L 7 [] := g1
  rw [h3] at g1
  have hr : S3.L.Pairwise fun p q => p.plc < q.plc := by
    rw [show S3.L = writeL S2.L 7 [] from g1]
    exact (dok_writeL d1.ok (k := 7) (by decide) (bs := []) (by decide)).rise
  have hv := view_torn d1 7 [] g1 hr [2] (fun j => by
    unfold fate
    rw [if_neg (by decide), show j % [(2 : UInt8)].length = 0 from Nat.mod_one j]
    rfl)
  have w0 : Whole fp (viewS (bootS S3 [2]) 5) 2 [97] 1 := by
    refine (load_slot0 (by decide) b2).congr fun i hi => ?_
    have hi2 : i < 2 := Nat.lt_of_lt_of_le hi (by decide)
    rw [hv, if_neg (by omega)]
    exact d4 i hi2
  have w1 : slotOf fp (viewS (bootS S3 [2]) (5 + 2)) 2 = none := slotOf_none.2 fun bs n hw => by
    obtain ⟨x, hx, _⟩ := hw.first
    rw [hv, if_pos rfl] at hx
    cases hx
  unfold loadS
  rw [(slotOf_some (by decide)).2 w0, w1]
  rfl
end Go.Proofs.YtbodiioemohenaaDoor

/- A wipe: the pair's sectors hold these bytes, twice, and nothing else. No program in sight. Conditions: there is room; no fuse. -/
namespace Go.Proofs.YtbodiioemohenaaDoor
open Go.RowKit

/-- A sector of a slot that was wiped. -/
def secW (fp : List UInt8 → List UInt8) (bs : List UInt8) (n i : Nat) : List UInt8 := if i < cntS bs.length then pad128 (partS fp bs n i) else z128
theorem laid_sec {fp : List UInt8 → List UInt8} (bs : List UInt8) (n k i : Nat) : pad128 ((laidS fp bs n k true).getD i []) = secW fp bs n i := by
  unfold secW
  rcases Nat.lt_or_ge i (cntS bs.length) with h | h
  · rw [if_pos h, laidS_part h]
  · rw [if_neg (by omega), laidS_behind h]
    rfl
theorem wiped {fp : List UInt8 → List UInt8} (hf : ∀ b, (fp b).length = 8) {S : DS} (hc : Calm S) (h0 : S.fuse = 0) {a k : Nat} {bs : List UInt8} (h1 : 1 ≤ k) (h2 : a + 2 * k ≤ 1024) (hb : bs.length ≤ 104 * k) (hm : mostS S a k < 1000000) {S1 S2 : DS} {e1 e2 : Nat} (hS1 : saveS fp S a k bs true = (S1, e1)) (hS2 : saveS fp S1 a k bs true = (S2, e2)) :
    e1 = 0 ∧ e2 = 0 ∧ S1.dead = false ∧ S1.fuse = 0 ∧ mostS S1 a k = mostS S a k + 1 ∧ S1.ops ≤ S.ops + k + 1 ∧ S2.dead = false ∧ ∃ s, s ≤ 1 ∧ ∀ i, i < k → viewS S2 (a + k * s) i = some (secW fp bs (mostS S a k + 2) i) ∧ viewS S2 (a + k * (1 - s)) i = some (secW fp bs (mostS S a k + 1) i) := by
  obtain ⟨a1, a2⟩ := save_none (wiped := true) hf hc.on h0 h1 h2 hb
  obtain ⟨b1, b2, b3, b4, b5⟩ := save_done (wiped := true) hf hc h1 h2 hb (by omega) a1
  have o1 := (save_cases (wiped := true) hf hc h1 h2 hb).1
  rw [hS1] at a1 a2 b1 b2 b3 b4 b5 o1
  have a1 : e1 = 0 := a1
  have a2 : S1.fuse = 0 := a2
  have b1 : Calm S1 := b1
  have b3 : mostS S1 a k = mostS S a k + 1 := b3
  obtain ⟨c1, c2⟩ := save_none (wiped := true) hf b1.on a2 h1 h2 hb
  obtain ⟨d1, d2, d3, d4, d5⟩ := save_done (wiped := true) hf b1 h1 h2 hb (by omega) c1
  rw [hS2] at c1 c2 d1 d2 d3 d4 d5
  have c1 : e2 = 0 := c1
  have hl := (laidS_length (fp := fp) (n := mostS S a k + 1) (wiped := true) (cntS_le hb h1)).2.2.2 rfl
  have hl2 := (laidS_length (fp := fp) (n := mostS S1 a k + 1) (wiped := true) (cntS_le hb h1)).2.2.2 rfl
  have b2 : loadS fp S1 a k = some (bs, mostS S a k + 1, 1 - slotN (loadS fp S a k)) := b2
  have hs : slotN (loadS fp S1 a k) = 1 - slotN (loadS fp S a k) := by
    rw [b2]
    rfl
  refine ⟨a1, c1, b1.on, a2, b3, o1, d1.on, 1 - slotN (loadS fp S1 a k), by omega, fun i hi => ?_⟩
  have h01 := slotN_01 (fp := fp) (S := S1) (a := a) (k := k)
  have e5 := d5 i (by rw [hl2]; exact hi)
  have e4 := d4 i hi
  rw [laid_sec, b3] at e5
  refine ⟨e5, ?_⟩
  have e : 1 - (1 - slotN (loadS fp S1 a k)) = slotN (loadS fp S1 a k) := by omega
  rw [e]
  refine e4.trans ?_
  rw [hs]
  have e6 := b5 i (by rw [hl]; exact hi)
  rw [laid_sec] at e6
  exact e6
end Go.Proofs.YtbodiioemohenaaDoor
