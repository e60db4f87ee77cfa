/- Part 18 of the words that the laws share: SlAw, JnTurn, JnCon, JnEx, JnLaw. No condition of its own: each theorem says its own. -/
import Derived.Test.YtbodiioemohenaaDoorPart17
import Derived.Test.YtbodiioemohenaaDoorPart9
import Derived.Test.YtbodiioemohenaaDoorPart15
import Derived.Test.YtbodiioemohenaaDoorPart12
import Derived.Test.YtbodiioemohenaaDoorPart16
import Derived.Lib.SlBytesConst
import Derived.Laws.IdiomStrings

/- The tenth layer's awake: over contracts of the developers' disk and slot. Premises: the contracts; the fingerprint's table is laid. -/
namespace Go.Proofs.YtbodiioemohenaaDoor
open Go.RowKit

theorem fp8_length (b : List UInt8) : (fp8 b).length = 8 := by
  unfold fp8
  have h : (shaB b).length = 32 := by simp [shaB, St.bytes, beB_length]
  rw [List.length_take, h]
  rfl
/-- Where a pair and its disk lie: behind what was there. -/
structure PairAt {DC : DiskW} (SC : SlotC DC) (B : Nat) (w : World) (pp dp : Value) (a k : Nat) (S : DS) (F : Nat → Prop) : Prop where
  both : Both DC SC.At w pp dp a k S F
  new : ∀ j, F j → B ≤ j
theorem PairAt.below {DC : DiskW} {SC : SlotC DC} {B : Nat} {w w' : World} {pp dp : Value} {a k : Nat} {S : DS} {F : Nat → Prop} (h : PairAt SC B w pp dp a k S F) (hb : Below w.heap.size w w') : PairAt SC B w' pp dp a k S F := ⟨h.both.below SC hb, h.new⟩
/-- A call's remains. -/
theorem PairAt.left {DC : DiskW} {SC : SlotC DC} {B : Nat} {w0 w w' : World} {pp dp : Value} {a k : Nat} {S S' : DS} {F : Nat → Prop} (h : PairAt SC B w pp dp a k S F) (hB : Below B w0 w) (hBz : B ≤ w.heap.size) (hl : BLeft DC SC.At w w' pp dp a k S' F) : (∃ F', PairAt SC B w' pp dp a k S' F' ∧ ∀ j, F' j → F j ∨ w.heap.size ≤ j) ∧ Below B w0 w' := by
  obtain ⟨⟨F', h1, h2⟩, h3⟩ := hl
  refine ⟨⟨F', ⟨h1, fun j hj => ?_⟩, h2⟩, hB.trans (h3.below h.new hBz)⟩
  rcases h2 j hj with h4 | h4
  · exact h.new j h4
  · omega
/-- A new pair on a new disk. -/
theorem pair_made {DC : DiskW} {SC : SlotC DC} {B : Nat} {w1 w2 : World} {pp dp : Value} {a k : Nat} {S : DS} {F : Nat → Prop} (h : DC.Is w1 dp S F) (hF : ∀ j, F j → B ≤ j) (hz : B ≤ w1.heap.size) (hG : ∃ G, SC.At w2 pp dp a k G ∧ ∀ j, G j → w1.heap.size ≤ j) (hb : Below w1.heap.size w1 w2) : ∃ F', PairAt SC B w2 pp dp a k S F' := by
  obtain ⟨G, h1, h2⟩ := hG
  have hl := DC.lt h
  refine ⟨_, ⟨⟨F, G, DC.other h (Chg.of_below hb) (fun j hj e => by have := hl j hj; omega), h1, fun j hj e => by have := hl j hj; have := h2 j e; omega, rfl⟩, fun j hj => ?_⟩⟩
  rcases hj with hj | hj
  · exact hF j hj
  · have := h2 j hj
    omega
/-- The power's return, a fuse, a sector written, to the disk of a pair. -/
theorem PairAt.boot {DC : DiskW} {SC : SlotC DC} {B : Nat} {w0 w : World} {pp dp : Value} {a k : Nat} {S : DS} {F : Nat → Prop} (h : PairAt SC B w pp dp a k S F) (hB : Below B w0 w) (hz : B ≤ w.heap.size) {u : Value} {fs : List UInt8} (hr : Rd w u fs) (hl : fs.length ≤ 1000) (hu : 0 < fs.length → ∀ j, u.ownBlock = some j → ¬ F j) :
    Calls Tryd.prog 12 #[dp, u] w fun e w' => e = .returned (.tuple #[]) ∧ (∃ F', PairAt SC B w' pp dp a k (bootS S fs) F' ∧ ∀ j, F' j → F j ∨ w.heap.size ≤ j) ∧ Below B w0 w' := by
  have hb := h.both
  obtain ⟨F1, F2, h1, h2, h3, rfl⟩ := hb
  refine (DC.boot h1 u fs hr hl fun h0 j hj e => hu h0 j hj (.inl e)).mono ?_
  rintro e w' ⟨rfl, h4⟩
  obtain ⟨h5, h6⟩ := h.left hB hz (both_disk SC h2 h3 h4)
  exact ⟨rfl, h5, h6⟩
theorem PairAt.fuse {DC : DiskW} {SC : SlotC DC} {B : Nat} {w0 w : World} {pp dp : Value} {a k : Nat} {S : DS} {F : Nat → Prop} (h : PairAt SC B w pp dp a k S F) (hB : Below B w0 w) (hz : B ≤ w.heap.size) (n : Int) (hn : (Lit.int .i64 n).wf = true) :
    Calls Tryd.prog 8 #[dp, .int .i64 n] w fun e w' => (∃ c, e = .returned c) ∧ (∃ F', PairAt SC B w' pp dp a k (fuseS S n).1 F' ∧ ∀ j, F' j → F j ∨ w.heap.size ≤ j) ∧ Below B w0 w' := by
  have hb := h.both
  obtain ⟨F1, F2, h1, h2, h3, rfl⟩ := hb
  refine (DC.fuse h1 n hn).mono ?_
  rintro e w' ⟨rfl, h4⟩
  obtain ⟨h5, h6⟩ := h.left hB hz (both_disk SC h2 h3 h4)
  exact ⟨⟨_, rfl⟩, h5, h6⟩
theorem PairAt.write {DC : DiskW} {SC : SlotC DC} {B : Nat} {w0 w : World} {pp dp : Value} {a k : Nat} {S : DS} {F : Nat → Prop} (h : PairAt SC B w pp dp a k S F) (hB : Below B w0 w) (hz : B ≤ w.heap.size) (q : Int) (hq : (Lit.int .i64 q).wf = true) {u : Value} {bs : List UInt8} (hr : Rd w u bs) (hl : bs.length ≤ 1000) (ho : S.ops < 1000000) (hu : 0 < bs.length → ∀ j, u.ownBlock = some j → ¬ F j) :
    Calls Tryd.prog 37 #[dp, .int .i64 q, u] w fun e w' => (∃ c, e = .returned c) ∧ (∃ F', PairAt SC B w' pp dp a k (writeS S q bs).1 F' ∧ ∀ j, F' j → F j ∨ w.heap.size ≤ j) ∧ Below B w0 w' := by
  have hb := h.both
  obtain ⟨F1, F2, h1, h2, h3, rfl⟩ := hb
  refine (DC.write h1 q u bs hq hr hl ho fun h0 j hj e => hu h0 j hj (.inl e)).mono ?_
  rintro e w' ⟨rfl, h4⟩
  obtain ⟨h5, h6⟩ := h.left hB hz (both_disk SC h2 h3 h4)
  exact ⟨⟨_, rfl⟩, h5, h6⟩
end Go.Proofs.YtbodiioemohenaaDoor

/- What a journal's calls make of its disk: a record appended, an image saved, the power gone and back. No program in sight. Conditions: there is room; the epoch is none that is spent. -/
namespace Go.Proofs.YtbodiioemohenaaDoor
open Go.RowKit

/-- Sectors are written, and synced. -/
def layS (S : DS) (p : Nat) (xs : List (List UInt8)) : DS × Nat :=
  let r := writesS S p xs
  if r.2 = 0 then syncS r.1 else r
theorem lay_cases {S : DS} {p : Nat} {xs : List (List UInt8)} (hd : S.dead = false) (hp : p + xs.length ≤ 1024) (hx : ∀ x ∈ xs, x.length ≤ 128) :
    (layS S p xs).1.ops ≤ S.ops + xs.length + 1 ∧
    (((layS S p xs).2 = 0 ∧ (layS S p xs).1.dead = false ∧ (layS S p xs).1.L = (writesL S.L p xs).map safeP) ∨
     ((layS S p xs).2 = 10 ∧ (layS S p xs).1.dead = true ∧ ∃ j, (layS S p xs).1.L = writesL S.L p (xs.take j))) := by
  obtain ⟨j, k1, k2, k3, k4⟩ := writesS_is xs S p hd hp hx
  unfold layS
  generalize hg : writesS S p xs = r at k2 k3 k4
  dsimp only
  rcases k4 with ⟨k5, k6, k7⟩ | ⟨k5, k6⟩
  · rw [if_pos k5]
    rw [k7, List.take_of_length_le (Nat.le_refl _)] at k2
    unfold syncS
    rw [if_neg (by rw [k6]; decide)]
    dsimp only
    rcases burn_dead r.1 k6 with ⟨h3, h4⟩ | ⟨h3, h4⟩
    · rw [if_pos h3]
      refine ⟨?_, .inr ⟨rfl, h4, j, ?_⟩⟩
      · show (burnS r.1).1.ops ≤ _
        rw [burnS_ops]
        omega
      · show (burnS r.1).1.L = _
        rw [burnS_L, k2, k7, List.take_of_length_le (Nat.le_refl _)]
    · rw [if_neg (by rw [h3]; decide)]
      refine ⟨?_, .inl ⟨rfl, h4, ?_⟩⟩
      · show (burnS r.1).1.ops ≤ _
        rw [burnS_ops]
        omega
      · show ((burnS r.1).1.L).map safeP = _
        rw [burnS_L, k2]
  · rw [if_neg (by rw [k5]; decide)]
    exact ⟨by omega, .inr ⟨k5, k6, j, k2⟩⟩
/-- What lies beside what was written is told as before, done or cut off. -/
theorem lay_done {S : DS} {p : Nat} {xs : List (List UInt8)} (hc : Calm S) (hp : p + xs.length ≤ 1024) (hx : ∀ x ∈ xs, x.length ≤ 128) (he : (layS S p xs).2 = 0) :
    Calm (layS S p xs).1 ∧ ∀ i, viewS (layS S p xs).1 0 i = if p ≤ i ∧ i < p + xs.length then some (pad128 (xs.getD (i - p) [])) else viewS S 0 i := by
  obtain ⟨_, h3⟩ := lay_cases hc.on hp hx
  rcases h3 with ⟨_, h4, h5⟩ | ⟨h3, _⟩
  · generalize hT : (layS S p xs).1 = T at h4 h5
    refine ⟨⟨h4, by rw [h5]; exact shut_safe _, by rw [h5]; exact opn_safe _, dok_of (dok_map (dok_writes xs p hc.ok hp hx) (f := safeP) (fun _ => rfl) fun _ hp => hp) h5⟩, fun i => ?_⟩
    have h6 := view_safe S T rfl p xs h5 0 i
    rw [Nat.zero_add] at h6
    exact h6
  · rw [he] at h3
    cases h3
theorem lay_cut {S : DS} {p : Nat} {xs : List (List UInt8)} (hc : Calm S) (hp : p + xs.length ≤ 1024) (hx : ∀ x ∈ xs, x.length ≤ 128) (he : (layS S p xs).2 = 10) (fs : List UInt8) :
    Calm (bootS (layS S p xs).1 fs) ∧ ∀ i, viewS (bootS (layS S p xs).1 fs) 0 i = viewS S 0 i ∨ ((p ≤ i ∧ i < p + xs.length) ∧ (viewS (bootS (layS S p xs).1 fs) 0 i = some (pad128 (xs.getD (i - p) [])) ∨ viewS (bootS (layS S p xs).1 fs) 0 i = none)) := by
  obtain ⟨_, h3⟩ := lay_cases hc.on hp hx
  rcases h3 with ⟨h3, _⟩ | ⟨_, h4, j, h5⟩
  · rw [he] at h3
    cases h3
  · generalize hT : (layS S p xs).1 = T at h4 h5
    have hlen : (xs.take j).length ≤ xs.length := by
      rw [List.length_take]
      omega
    have hdok : DOk T := dok_of (dok_writes (xs.take j) p hc.ok (by omega) fun x hx' => hx x (List.mem_of_mem_take hx')) h5
    refine ⟨calm_boot hdok fs, fun i => ?_⟩
    have h6 := view_fates hc p (xs.take j) h5 hdok.rise fs 0 i
    rw [Nat.zero_add] at h6
    rcases h6 with h6 | ⟨h7, h8⟩
    · exact .inl h6
    · right
      refine ⟨⟨h7.1, by omega⟩, ?_⟩
      have e : (xs.take j).getD (i - p) [] = xs.getD (i - p) [] := by
        rw [List.getD, List.getD, List.getElem?_take, if_pos (by rw [List.length_take] at h7; omega)]
      rw [e] at h8
      exact h8
theorem load_congr {S T : DS} {k : Nat} (hk : k < 65536) (h : ∀ i, i < 2 * k → viewS T 0 i = viewS S 0 i) : loadS fp8 T 0 k = loadS fp8 S 0 k := by
  unfold loadS
  rw [slotOf_congr hk fun i hi => h i (by omega), slotOf_congr (V := viewS S (0 + k)) (W := viewS T (0 + k)) hk fun i hi => by rw [view_off, view_off]; exact h (k + i) (by omega)]
theorem most_congr {S T : DS} {k : Nat} (h : ∀ i, i < 2 * k → viewS T 0 i = viewS S 0 i) : mostS T 0 k = mostS S 0 k :=
  Nat.le_antisymm (most_le fun i x hi hx => most_ge hi (by rw [← h i hi]; exact hx)) (most_le fun i x hi hx => most_ge hi (by rw [h i hi]; exact hx))
/-- The sectors that a save writes. -/
theorem saveS_lay (S : DS) (img : List UInt8) (wiped : Bool) : saveS fp8 S 0 256 img wiped = layS S (0 + 256 * (1 - slotN (loadS fp8 S 0 256))) (laidS fp8 img (mostS S 0 256 + 1) 256 wiped) := rfl
theorem save_room (S : DS) (img : List UInt8) (wiped : Bool) (hi : img.length ≤ 20000) : 0 + 256 * (1 - slotN (loadS fp8 S 0 256)) + (laidS fp8 img (mostS S 0 256 + 1) 256 wiped).length ≤ 512 := by
  have h1 := at_room fp8 S (a := 0) (k := 256) (by decide)
  have h2 := (laidS_length (fp := fp8) (n := mostS S 0 256 + 1) (wiped := wiped) (cntS_le (l := img.length) (k := 256) (by omega) (by decide))).2.1
  omega
/-- The number of what is loaded, 0 if there is nothing. -/
def hadN (r : Option (List UInt8 × Nat × Nat)) : Nat := r.elim 0 fun x => x.2.1
theorem hadN_most (S : DS) : hadN (loadS fp8 S 0 256) ≤ mostS S 0 256 := by
  unfold loadS
  cases h0 : slotOf fp8 (viewS S 0) 256 with
  | none =>
    cases h1 : slotOf fp8 (viewS S (0 + 256)) 256 with
    | none => exact Nat.zero_le _
    | some r => exact whole_most (k := 256) (j := 256) (by decide) (by decide) ((slotOf_some (by decide)).1 (show _ = some (r.1, r.2) from h1))
  | some q =>
    have h3 := whole_most (S := S) (a := 0) (k := 256) (j := 0) (by decide) (by decide) ((slotOf_some (by decide)).1 (show slotOf fp8 (viewS S (0 + 0)) 256 = some (q.1, q.2) from h0))
    cases h1 : slotOf fp8 (viewS S (0 + 256)) 256 with
    | none => exact h3
    | some r =>
      have h4 := whole_most (S := S) (a := 0) (k := 256) (j := 256) (by decide) (by decide) ((slotOf_some (by decide)).1 (show _ = some (r.1, r.2) from h1))
      show hadN (if r.2 ≤ q.2 then some (q.1, q.2, 0) else some (r.1, r.2, 1)) ≤ _
      split
      · exact h3
      · exact h4
/-- A disk between two turns: what lies behind the pair is elder than, or of, what is loaded. -/
structure JOff (S : DS) : Prop where
  calm : Calm S
  low : ∀ i x, 512 ≤ i → i < 1024 → viewS S 0 i = some x → numOf x ≤ hadN (loadS fp8 S 0 256)
/-- A disk within a turn: an image was saved, these records were appended since. -/
structure JOn (S : DS) (img : List UInt8) (n : Nat) (rs : List (List UInt8)) : Prop where
  calm : Calm S
  load : ∃ s, loadS fp8 S 0 256 = some (img, n, s)
  most : mostS S 0 256 = n
  stand : Stand (viewS S 0) n 0 512 rs
  past : ∀ i x, endR 512 rs ≤ i → i < 1024 → viewS S 0 i = some x → numOf x < n
  low : ∀ i x, 512 ≤ i → i < 1024 → viewS S 0 i = some x → numOf x ≤ n
theorem JOn.recs {S : DS} {img : List UInt8} {n : Nat} {rs : List (List UInt8)} (h : JOn S img n rs) (he : endR 512 rs ≤ 1024) : Recs (viewS S 0) n 0 512 rs := by
  refine ⟨h.stand, fun b hb => ?_⟩
  have h1 := hb.room
  have h2 := cntR_pos b.length
  exact rec_none (fun x hx e => by have := h.past _ x (Nat.le_refl _) (by omega) hx; omega) hb
theorem jsave_done {S : DS} (h : JOff S) {img : List UInt8} (hi : img.length ≤ 20000) (hm : mostS S 0 256 < 1000000) (he : (saveS fp8 S 0 256 img false).2 = 0) : JOn (saveS fp8 S 0 256 img false).1 img (mostS S 0 256 + 1) [] := by
  obtain ⟨h1, h2, h3, _⟩ := save_done (wiped := false) fp8_length h.calm (a := 0) (k := 256) (bs := img) (by decide) (by decide) (by omega) (by omega) he
  have hr := save_room S img false hi
  have he' := he
  rw [saveS_lay] at he'
  obtain ⟨_, hv⟩ := lay_done h.calm (by omega) (laidS_short fp8_length) he'
  rw [← saveS_lay] at hv
  have hm2 := hadN_most S
  have hold : ∀ i x, 512 ≤ i → i < 1024 → viewS (saveS fp8 S 0 256 img false).1 0 i = some x → numOf x < mostS S 0 256 + 1 := fun i x h5 h6 h7 => by
    rw [hv, if_neg (by omega)] at h7
    have := h.low i x h5 h6 h7
    omega
  exact ⟨h1, ⟨_, h2⟩, h3, trivial, fun i x h5 h6 h7 => hold i x h5 h6 h7, fun i x h5 h6 h7 => Nat.le_of_lt (hold i x h5 h6 h7)⟩
theorem jsave_cut {S : DS} (h : JOff S) {img : List UInt8} (hi : img.length ≤ 20000) (hm : mostS S 0 256 < 1000000) (he : (saveS fp8 S 0 256 img false).2 = 10) (fs : List UInt8) :
    JOff (bootS (saveS fp8 S 0 256 img false).1 fs) ∧ mostS (bootS (saveS fp8 S 0 256 img false).1 fs) 0 256 ≤ mostS S 0 256 + 1 ∧
    (loadS fp8 (bootS (saveS fp8 S 0 256 img false).1 fs) 0 256 = loadS fp8 S 0 256 ∨ ((∃ s, loadS fp8 (bootS (saveS fp8 S 0 256 img false).1 fs) 0 256 = some (img, mostS S 0 256 + 1, s)) ∧ Recs (viewS (bootS (saveS fp8 S 0 256 img false).1 fs) 0) (mostS S 0 256 + 1) 0 512 [])) := by
  obtain ⟨h1, h2, h3⟩ := save_cut fp8_length h.calm (a := 0) (k := 256) (bs := img) (by decide) (by decide) (by omega) (by omega) he fs
  have hr := save_room S img false hi
  have he' := he
  rw [saveS_lay] at he'
  obtain ⟨_, hv⟩ := lay_cut h.calm (by omega) (laidS_short fp8_length) he' fs
  rw [← saveS_lay] at hv
  have hm2 := hadN_most S
  have hold : ∀ i x, 512 ≤ i → i < 1024 → viewS (bootS (saveS fp8 S 0 256 img false).1 fs) 0 i = some x → numOf x ≤ hadN (loadS fp8 S 0 256) := fun i x h5 h6 h7 => by
    rcases hv i with h8 | ⟨h8, _⟩
    · rw [h8] at h7
      exact h.low i x h5 h6 h7
    · omega
  rcases h3 with h3 | h3
  · refine ⟨⟨h1, fun i x h5 h6 h7 => ?_⟩, h2, .inl h3⟩
    rw [h3]
    exact hold i x h5 h6 h7
  · refine ⟨⟨h1, fun i x h5 h6 h7 => ?_⟩, h2, .inr ⟨⟨_, h3⟩, trivial, fun b hb => ?_⟩⟩
    · rw [h3]
      have := hold i x h5 h6 h7
      show numOf x ≤ mostS S 0 256 + 1
      omega
    · exact rec_none (fun x hx e => by have := hold 512 x (by decide) (by decide) hx; omega) hb
theorem append_short (b : List UInt8) (n nu : Nat) : ∀ x ∈ partsR b n nu, x.length ≤ 128 := by
  intro x hx
  unfold partsR at hx
  obtain ⟨i, _, rfl⟩ := List.mem_map.1 hx
  exact partR_length b n nu i
theorem jappend_done {S : DS} {img b : List UInt8} {n : Nat} {rs : List (List UInt8)} (h : JOn S img n rs) (hp : endR 512 rs + cntR b.length ≤ 1024) (hn : n < 256 ^ 8) (hb : b.length < 256 ^ 4) (he : (layS S (endR 512 rs) (partsR b n rs.length)).2 = 0) : JOn (layS S (endR 512 rs) (partsR b n rs.length)).1 img n (rs ++ [b]) := by
  have hge := endR_ge rs 512
  obtain ⟨h1, hv⟩ := lay_done h.calm (by rw [partsR_length]; exact hp) (append_short b n rs.length) he
  generalize hT : (layS S (endR 512 rs) (partsR b n rs.length)).1 = T at h1 hv
  rw [partsR_length] at hv
  have hpair : ∀ i, i < 2 * 256 → viewS T 0 i = viewS S 0 i := fun i hi => by rw [hv, if_neg (by omega)]
  have hnew : ∀ i, i < cntR b.length → viewS T 0 (endR 512 rs + i) = some (pad128 (partR b n rs.length i)) := fun i hi => by
    rw [hv, if_pos (by omega), show endR 512 rs + i - endR 512 rs = i by omega, partsR_get hi]
  refine ⟨h1, ?_, ?_, ?_, fun i x h5 h6 h7 => ?_, fun i x h5 h6 h7 => ?_⟩
  · rw [load_congr (by decide) hpair]
    exact h.load
  · rw [most_congr hpair]
    exact h.most
  · refine Stand.snoc (h.stand.congr fun i h5 h6 => by rw [hv, if_neg (by omega)]) ?_
    rw [Nat.zero_add]
    exact rec_laid hp hn hb hnew
  · rw [endR_snoc] at h5
    rw [hv, if_neg (by omega)] at h7
    exact h.past i x (by omega) h6 h7
  · rw [hv] at h7
    split at h7
    · rename_i h8
      injection h7 with h7
      have e := partsR_get (b := b) (n := n) (nu := rs.length) (i := i - endR 512 rs) (by omega)
      rw [← h7, e, numOf_hdrR (partR_take b n rs.length _) hn]
      exact Nat.le_refl _
    · exact h.low i x h5 h6 h7
theorem jappend_cut {S : DS} {img b : List UInt8} {n : Nat} {rs : List (List UInt8)} (h : JOn S img n rs) (hp : endR 512 rs + cntR b.length ≤ 1024) (hn : n < 256 ^ 8) (hb : b.length < 256 ^ 4) (he : (layS S (endR 512 rs) (partsR b n rs.length)).2 = 10) (fs : List UInt8) :
    JOff (bootS (layS S (endR 512 rs) (partsR b n rs.length)).1 fs) ∧ mostS (bootS (layS S (endR 512 rs) (partsR b n rs.length)).1 fs) 0 256 = n ∧ (∃ s, loadS fp8 (bootS (layS S (endR 512 rs) (partsR b n rs.length)).1 fs) 0 256 = some (img, n, s)) ∧
    (Recs (viewS (bootS (layS S (endR 512 rs) (partsR b n rs.length)).1 fs) 0) n 0 512 rs ∨ Recs (viewS (bootS (layS S (endR 512 rs) (partsR b n rs.length)).1 fs) 0) n 0 512 (rs ++ [b])) := by
  have hge := endR_ge rs 512
  obtain ⟨h1, hv⟩ := lay_cut h.calm (by rw [partsR_length]; exact hp) (append_short b n rs.length) he fs
  generalize hT : bootS (layS S (endR 512 rs) (partsR b n rs.length)).1 fs = T at h1 hv
  rw [partsR_length] at hv
  have hpair : ∀ i, i < 2 * 256 → viewS T 0 i = viewS S 0 i := fun i hi => by
    rcases hv i with h8 | ⟨h8, _⟩
    · exact h8
    · omega
  have hload : ∃ s, loadS fp8 T 0 256 = some (img, n, s) := by
    rw [load_congr (by decide) hpair]
    exact h.load
  have hmost : mostS T 0 256 = n := by
    rw [most_congr hpair]
    exact h.most
  have hlow : ∀ i x, 512 ≤ i → i < 1024 → viewS T 0 i = some x → numOf x ≤ n := fun i x h5 h6 h7 => by
    rcases hv i with h8 | ⟨h8, h9 | h9⟩
    · rw [h8] at h7
      exact h.low i x h5 h6 h7
    · rw [h9] at h7
      injection h7 with h7
      have e := partsR_get (b := b) (n := n) (nu := rs.length) (i := i - endR 512 rs) (by omega)
      rw [← h7, e, numOf_hdrR (partR_take b n rs.length _) hn]
      exact Nat.le_refl _
    · rw [h9] at h7
      cases h7
  have hst : Stand (viewS T 0) n 0 512 rs := h.stand.congr fun i h5 h6 => by
    rcases hv i with h8 | ⟨h8, _⟩
    · exact h8
    · omega
  have hmix : ∀ i, i < cntR b.length → (∀ x, viewS T 0 (endR 512 rs + i) = some x → numOf x ≠ n) ∨ viewS T 0 (endR 512 rs + i) = some (pad128 (partR b n rs.length i)) := fun i hi => by
    rcases hv (endR 512 rs + i) with h8 | ⟨_, h9 | h9⟩
    · left
      intro x hx e
      rw [h8] at hx
      have := h.past _ x (by omega) (by omega) hx
      omega
    · right
      rw [h9, show endR 512 rs + i - endR 512 rs = i by omega, partsR_get hi]
    · left
      intro x hx
      rw [h9] at hx
      cases hx
  refine ⟨⟨h1, fun i x h5 h6 h7 => ?_⟩, hmost, hload, ?_⟩
  · obtain ⟨s, hs⟩ := hload
    rw [hs]
    exact hlow i x h5 h6 h7
  · by_cases hr : ∃ c, RecAt (viewS T 0) n rs.length (endR 512 rs) c
    · right
      obtain ⟨c, hc⟩ := hr
      have h3 := rec_mixed hp hn hb hmix hc
      refine ⟨Stand.snoc hst (by rw [Nat.zero_add]; exact h3), fun d hd => ?_⟩
      rw [endR_snoc] at hd
      have h4 := hd.room
      have h5 := cntR_pos d.length
      refine rec_none (fun x hx e => ?_) hd
      rcases hv (endR 512 rs + cntR b.length) with h8 | ⟨h8, _⟩
      · rw [h8] at hx
        have := h.past _ x (by omega) (by omega) hx
        omega
      · omega
    · left
      exact ⟨hst, fun c hc => hr ⟨c, by rw [Nat.zero_add] at hc; exact hc⟩⟩
/-- The power goes off and comes back when all is safe. -/
theorem jrest {S : DS} {img : List UInt8} {n : Nat} {rs : List (List UInt8)} (h : JOn S img n rs) (he : endR 512 rs ≤ 1024) (fs : List UInt8) : JOff (bootS S fs) ∧ mostS (bootS S fs) 0 256 = n ∧ (∃ s, loadS fp8 (bootS S fs) 0 256 = some (img, n, s)) ∧ Recs (viewS (bootS S fs) 0) n 0 512 rs := by
  have hv : ∀ i, viewS (bootS S fs) 0 i = viewS S 0 i := fun i => view_calm h.calm fs 0 i
  have hload : ∃ s, loadS fp8 (bootS S fs) 0 256 = some (img, n, s) := by
    rw [load_congr (by decide) fun i _ => hv i]
    exact h.load
  refine ⟨⟨calm_boot h.calm.ok fs, fun i x h5 h6 h7 => ?_⟩, by rw [most_congr fun i _ => hv i]; exact h.most, hload, ?_⟩
  · obtain ⟨s, hs⟩ := hload
    rw [hs]
    rw [hv] at h7
    exact h.low i x h5 h6 h7
  · have e : viewS (bootS S fs) 0 = viewS S 0 := funext hv
    rw [e]
    exact h.recs he
end Go.Proofs.YtbodiioemohenaaDoor

/- What the eleventh layer's laws need of the developers' journal, over a disk: a predicate that says what a store is, and what each call makes of it and of its disk. Premises: the contracts themselves. -/
namespace Go.Proofs.YtbodiioemohenaaDoor
open Go.RowKit

/-- A store: is it fresh, its epoch, the next record's number and sector. -/
structure JS where
  fresh : Bool
  n : Nat
  next : Nat
  p : Nat
/-- Bytes 00 into some sectors. -/
def clearS : DS → List Nat → DS × Nat
  | S, [] => (S, 0)
  | S, i :: is => if (writeS S (i : Int) []).2 = 0 then clearS (writeS S (i : Int) []).1 is else writeS S (i : Int) []
/-- The sectors behind the pair that have others, or can't be read. -/
noncomputable def dirtyS (S : DS) : List Nat := ((List.range 512).map fun i => 512 + i).filter fun i => !decide (viewS S 0 i = some z128)
noncomputable def scrubS (S : DS) (img : List UInt8) : DS × Nat :=
  let r1 := saveS fp8 S 0 256 img true
  if r1.2 = 0 then
    let r2 := saveS fp8 r1.1 0 256 img true
    if r2.2 = 0 then
      let r3 := clearS r2.1 (dirtyS r2.1)
      if r3.2 = 0 then syncS r3.1 else r3
    else r2
  else r1
/-- What is recovered: the image and the records, or nothing. -/
def RecovAns (w' : World) (r : Option (List UInt8 × Nat × Nat)) (rs : List (List UInt8)) (e : Ending) : Prop :=
  match r with
  | none => ∃ u v, e = .returned (.tuple #[u, v, .int .i64 6])
  | some (b, _, _) => ∃ u v, e = .returned (.tuple #[u, v, .int .i64 0]) ∧ Rd w' u b ∧ RsA w' v rs
/-- A store on its disk, all blocks of both among F. -/
def JBoth (DC : DiskW) (At : World → Value → Value → JS → (Nat → Prop) → Prop) (w : World) (sp dp : Value) (st : JS) (S : DS) (F : Nat → Prop) : Prop :=
  ∃ F1 F2, DC.Is w dp S F1 ∧ At w sp dp st F2 ∧ (∀ j, F1 j → ¬ F2 j) ∧ F = fun j => F1 j ∨ F2 j
structure JLeft (DC : DiskW) (At : World → Value → Value → JS → (Nat → Prop) → Prop) (w w' : World) (sp dp : Value) (st : JS) (S : DS) (F : Nat → Prop) : Prop where
  both : ∃ F', JBoth DC At w' sp dp st S F' ∧ ∀ j, F' j → F j ∨ w.heap.size ≤ j
  chg : Chg F w w'
structure JournC (DC : DiskW) where
  At : World → Value → Value → JS → (Nat → Prop) → Prop
  other : ∀ {w w' : World} {sp dp : Value} {st : JS} {F G : Nat → Prop}, At w sp dp st F → Chg G w w' → (∀ j, F j → ¬ G j) → At w' sp dp st F
  lt : ∀ {w : World} {sp dp : Value} {st : JS} {F : Nat → Prop}, At w sp dp st F → ∀ j, F j → j < w.heap.size
  opn : ∀ {w : World} {dp : Value} {S : DS} {F : Nat → Prop}, DC.Is w dp S F →
    Calls Tryd.prog 7 #[dp] w fun e w' => ∃ X, e = .returned (.tuple #[.pointer (some X), .int .i64 0]) ∧ (∃ st G, st.fresh = false ∧ At w' (.pointer (some X)) dp st G ∧ ∀ j, G j → w.heap.size ≤ j) ∧ Below w.heap.size w w'
  recover : ∀ {w : World} {sp dp : Value} {st : JS} {S : DS} {F : Nat → Prop}, JBoth DC At w sp dp st S F → Salts w → ∀ rs : List (List UInt8), (∀ b n s, loadS fp8 S 0 256 = some (b, n, s) → Recs (viewS S 0) n 0 512 rs) →
    Calls Tryd.prog 13 #[sp] w fun e w' => RecovAns w' (loadS fp8 S 0 256) rs e ∧ Below w.heap.size w w'
  save : ∀ {w : World} {sp dp : Value} {st : JS} {S : DS} {F : Nat → Prop}, JBoth DC At w sp dp st S F → Salts w → (∀ j, F j → 0 < j) → ∀ (u : Value) (bs : List UInt8), Rd w u bs → (0 < bs.length → ∀ j, u.ownBlock = some j → ¬ F j) → bs.length ≤ 20000 → S.dead = false → mostS S 0 256 < 1000000 → S.ops < 50000 →
    Calls Tryd.prog 9 #[sp, u] w fun e w' => e = .returned (.int .i64 ((saveS fp8 S 0 256 bs false).2 : Int)) ∧ ∃ st', ((saveS fp8 S 0 256 bs false).2 = 0 → st' = ⟨true, mostS S 0 256 + 1, 0, 512⟩) ∧ JLeft DC At w w' sp dp st' (saveS fp8 S 0 256 bs false).1 F
  append : ∀ {w : World} {sp dp : Value} {n nu p : Nat} {S : DS} {F : Nat → Prop}, JBoth DC At w sp dp ⟨true, n, nu, p⟩ S F → ∀ (u : Value) (bs : List UInt8), Rd w u bs → (0 < bs.length → ∀ j, u.ownBlock = some j → ¬ F j) → bs.length ≤ 4096 → p + cntR bs.length ≤ 1024 → nu < 1000000 → n ≤ 1000000 → S.dead = false → S.ops < 50000 →
    Calls Tryd.prog 10 #[sp, u] w fun e w' => e = .returned (.int .i64 ((layS S p (partsR bs n nu)).2 : Int)) ∧ ∃ st', ((layS S p (partsR bs n nu)).2 = 0 → st' = ⟨true, n, nu + 1, p + cntR bs.length⟩) ∧ JLeft DC At w w' sp dp st' (layS S p (partsR bs n nu)).1 F
  stale : ∀ {w : World} {sp dp : Value} {st : JS} {S : DS} {F : Nat → Prop}, JBoth DC At w sp dp st S F → st.fresh = false → ∀ (u : Value) (bs : List UInt8), Rd w u bs →
    Calls Tryd.prog 10 #[sp, u] w fun e w' => e = .returned (.int .i64 13) ∧ Below w.heap.size w w'
  scrub : ∀ {w : World} {sp dp : Value} {st : JS} {S : DS} {F : Nat → Prop}, JBoth DC At w sp dp st S F → Salts w → (∀ j, F j → 0 < j) → ∀ (u : Value) (bs : List UInt8), Rd w u bs → (0 < bs.length → ∀ j, u.ownBlock = some j → ¬ F j) → bs.length ≤ 20000 → S.dead = false → mostS S 0 256 < 1000000 → S.ops < 50000 → (scrubS S bs).2 = 0 →
    Calls Tryd.prog 16 #[sp, u] w fun e w' => e = .returned (.int .i64 0) ∧ JLeft DC At w w' sp dp ⟨true, mostS (saveS fp8 S 0 256 bs true).1 0 256 + 1, 0, 512⟩ (scrubS S bs).1 F
/-- All bytes of a disk. -/
structure RawC (DC : DiskW) : Prop where
  raw : ∀ {w : World} {p : Value} {S : DS} {F : Nat → Prop}, DC.Is w p S F → Calls Tryd.prog 17 #[p] w fun e w' => ∃ u, e = .returned u ∧ Rd w' u (rawS S) ∧ Below w.heap.size w w'
/-- A disk, behind what was there, and rows of bytes that lie beside it. -/
def DKeep (DC : DiskW) (w0 : World) (dp : Value) (S : DS) (R : List (Value × List UInt8)) (W : World) : Prop :=
  ∃ F, DC.Is W dp S F ∧ (∀ j, F j → w0.heap.size ≤ j) ∧ Below w0.heap.size w0 W ∧ ∀ q ∈ R, Rd W q.1 q.2 ∧ (0 < q.2.length → ∀ j, q.1.ownBlock = some j → ¬ F j)
/-- A store on its disk, likewise. -/
def JKeep {DC : DiskW} (JC : JournC DC) (w0 : World) (sp dp : Value) (st : JS) (S : DS) (R : List (Value × List UInt8)) (W : World) : Prop :=
  ∃ F, JBoth DC JC.At W sp dp st S F ∧ (∀ j, F j → w0.heap.size ≤ j) ∧ Below w0.heap.size w0 W ∧ ∀ q ∈ R, Rd W q.1 q.2 ∧ (0 < q.2.length → ∀ j, q.1.ownBlock = some j → ¬ F j)
section
variable {DC : DiskW} {JC : JournC DC} {w0 : World} {sp dp : Value} {st st' : JS} {S S' : DS} {R : List (Value × List UInt8)} {W W' : World}
theorem JBoth.lt {F : Nat → Prop} (h : JBoth DC JC.At W sp dp st S F) : ∀ j, F j → j < W.heap.size := by
  obtain ⟨F1, F2, h1, h2, h3, rfl⟩ := h
  intro j hj
  rcases hj with hj | hj
  · exact DC.lt h1 j hj
  · exact JC.lt h2 j hj
theorem JBoth.other {F G : Nat → Prop} (h : JBoth DC JC.At W sp dp st S F) (hc : Chg G W W') (hd : ∀ j, F j → ¬ G j) : JBoth DC JC.At W' sp dp st S F := by
  obtain ⟨F1, F2, h1, h2, h3, rfl⟩ := h
  exact ⟨F1, F2, DC.other h1 hc fun j hj => hd j (.inl hj), JC.other h2 hc fun j hj => hd j (.inr hj), h3, rfl⟩
theorem JKeep.on (h : JKeep JC w0 sp dp st S R W) (hb : Below W.heap.size W W') : JKeep JC w0 sp dp st S R W' := by
  obtain ⟨F, h1, h2, h3, h4⟩ := h
  exact ⟨F, h1.other (Chg.of_below hb) fun j hj e => (by have := h1.lt j hj; omega), h2, h3.trans (hb.mono h3.size), fun q hq => ⟨(h4 q hq).1.below hb, (h4 q hq).2⟩⟩
theorem DKeep.on (h : DKeep DC w0 dp S R W) (hb : Below W.heap.size W W') : DKeep DC w0 dp S R W' := by
  obtain ⟨F, h1, h2, h3, h4⟩ := h
  exact ⟨F, DC.other h1 (Chg.of_below hb) fun j hj e => (by have := DC.lt h1 j hj; omega), h2, h3.trans (hb.mono h3.size), fun q hq => ⟨(h4 q hq).1.below hb, (h4 q hq).2⟩⟩
theorem JKeep.old (h : JKeep JC w0 sp dp st S R W) : Below w0.heap.size w0 W := by
  obtain ⟨F, _, _, h3, _⟩ := h
  exact h3
theorem DKeep.old (h : DKeep DC w0 dp S R W) : Below w0.heap.size w0 W := by
  obtain ⟨F, _, _, h3, _⟩ := h
  exact h3
theorem JKeep.rd (h : JKeep JC w0 sp dp st S R W) {v : Value} {xs : List UInt8} (hq : (v, xs) ∈ R) : Rd W v xs := by
  obtain ⟨F, _, _, _, h4⟩ := h
  exact (h4 _ hq).1
theorem DKeep.rd (h : DKeep DC w0 dp S R W) {v : Value} {xs : List UInt8} (hq : (v, xs) ∈ R) : Rd W v xs := by
  obtain ⟨F, _, _, _, h4⟩ := h
  exact (h4 _ hq).1
theorem JKeep.disk (h : JKeep JC w0 sp dp st S R W) : DKeep DC w0 dp S R W := by
  obtain ⟨F, ⟨F1, F2, h1, h2, h3, rfl⟩, h4, h5, h6⟩ := h
  exact ⟨F1, h1, fun j hj => h4 j (.inl hj), h5, fun q hq => ⟨(h6 q hq).1, fun h0 j hj e => (h6 q hq).2 h0 j hj (.inl e)⟩⟩
theorem DKeep.less (h : DKeep DC w0 dp S R W) {R' : List (Value × List UInt8)} (hR : ∀ q ∈ R', q ∈ R) : DKeep DC w0 dp S R' W := by
  obtain ⟨F, h1, h2, h3, h4⟩ := h
  exact ⟨F, h1, h2, h3, fun q hq => h4 q (hR q hq)⟩
/-- One row more, which lies behind all that is. -/
theorem JKeep.add {W0 : World} (h : JKeep JC w0 sp dp st S R W0) (hb : Below W0.heap.size W0 W) {v : Value} {xs : List UInt8} (hv : Rd W v xs) (hn : ∀ j, v.ownBlock = some j → W0.heap.size ≤ j) : JKeep JC w0 sp dp st S ((v, xs) :: R) W := by
  obtain ⟨F, h1, h2, h3, h4⟩ := h
  refine ⟨F, h1.other (Chg.of_below hb) fun j hj e => (by have := h1.lt j hj; omega), h2, h3.trans (hb.mono h3.size), fun q hq => ?_⟩
  rcases List.mem_cons.1 hq with rfl | hq
  · exact ⟨hv, fun _ j hj e => by have := h1.lt j e; have := hn j hj; omega⟩
  · exact ⟨(h4 q hq).1.below hb, (h4 q hq).2⟩
theorem JKeep.step {F : Nat → Prop} (h2 : ∀ j, F j → w0.heap.size ≤ j) (h3 : Below w0.heap.size w0 W) (h4 : ∀ q ∈ R, Rd W q.1 q.2 ∧ (0 < q.2.length → ∀ j, q.1.ownBlock = some j → ¬ F j)) (hl : JLeft DC JC.At W W' sp dp st' S' F) : JKeep JC w0 sp dp st' S' R W' := by
  obtain ⟨⟨F', h5, h6⟩, h7⟩ := hl
  refine ⟨F', h5, fun j hj => ?_, h3.trans (h7.below h2 h3.size), fun q hq => ⟨chg_rd0 h7 (h4 q hq).1 (h4 q hq).2, fun h0 j hj e => ?_⟩⟩
  · rcases h6 j hj with h8 | h8
    · exact h2 j h8
    · have := h3.size
      omega
  · rcases h6 j e with h8 | h8
    · exact (h4 q hq).2 h0 j hj h8
    · have := rd_elder (h4 q hq).1 j hj h0
      omega
theorem DKeep.step {F : Nat → Prop} (h2 : ∀ j, F j → w0.heap.size ≤ j) (h3 : Below w0.heap.size w0 W) (h4 : ∀ q ∈ R, Rd W q.1 q.2 ∧ (0 < q.2.length → ∀ j, q.1.ownBlock = some j → ¬ F j)) (hl : DLeft DC.Is W W' dp S' F) : DKeep DC w0 dp S' R W' := by
  obtain ⟨⟨F', h5, h6⟩, h7⟩ := hl
  refine ⟨F', h5, fun j hj => ?_, h3.trans (h7.below h2 h3.size), fun q hq => ⟨chg_rd0 h7 (h4 q hq).1 (h4 q hq).2, fun h0 j hj e => ?_⟩⟩
  · rcases h6 j hj with h8 | h8
    · exact h2 j h8
    · have := h3.size
      omega
  · rcases h6 j e with h8 | h8
    · exact (h4 q hq).2 h0 j hj h8
    · have := rd_elder (h4 q hq).1 j hj h0
      omega
theorem jk_new (w : World) : Calls Tryd.prog 6 #[] w fun e w' => ∃ dp, e = .returned dp ∧ DKeep DC w dp newS [] w' := by
  refine (DC.new w).mono ?_
  rintro e w' ⟨dp, rfl, ⟨F, h1, h2⟩, h3⟩
  exact ⟨dp, rfl, F, h1, h2, h3, fun q hq => by cases hq⟩
theorem jk_open (h : DKeep DC w0 dp S R W) : Calls Tryd.prog 7 #[dp] W fun e W' => ∃ X st, e = .returned (.tuple #[.pointer (some X), .int .i64 0]) ∧ st.fresh = false ∧ JKeep JC w0 (.pointer (some X)) dp st S R W' := by
  obtain ⟨F, h1, h2, h3, h4⟩ := h
  refine (JC.opn h1).mono ?_
  rintro e W' ⟨X, rfl, ⟨st, G, h5, h6, h7⟩, h8⟩
  refine ⟨X, st, rfl, h5, _, ⟨F, G, DC.other h1 (Chg.of_below h8) fun j hj e => (by have := DC.lt h1 j hj; omega), h6, fun j hj e => (by have := DC.lt h1 j hj; have := h7 j e; omega), rfl⟩, fun j hj => ?_, h3.trans (h8.mono h3.size), fun q hq => ⟨(h4 q hq).1.below h8, fun h0 j hj e => ?_⟩⟩
  · rcases hj with hj | hj
    · exact h2 j hj
    · have := h7 j hj
      have := h3.size
      omega
  · rcases e with e | e
    · exact (h4 q hq).2 h0 j hj e
    · have := rd_elder (h4 q hq).1 j hj h0
      have := h7 j e
      omega
/-- A row that was there ahead of the disk lies beside it. -/
theorem old_beside {F : Nat → Prop} (h : ∀ j, F j → w0.heap.size ≤ j) {v : Value} {xs : List UInt8} (hv : Rd w0 v xs) : 0 < xs.length → ∀ j, v.ownBlock = some j → ¬ F j := fun h0 j hj e => by
  have := rd_elder hv j hj h0
  have := h j e
  omega
theorem jk_save (h : JKeep JC w0 sp dp st S R W) (hs : Salts w0) {v : Value} {bs : List UInt8} (hv : (v, bs) ∈ R) (hl : bs.length ≤ 20000) (hd : S.dead = false) (hm : mostS S 0 256 < 1000000) (ho : S.ops < 50000) :
    Calls Tryd.prog 9 #[sp, v] W fun e W' => e = .returned (.int .i64 ((saveS fp8 S 0 256 bs false).2 : Int)) ∧ ∃ st', ((saveS fp8 S 0 256 bs false).2 = 0 → st' = ⟨true, mostS S 0 256 + 1, 0, 512⟩) ∧ JKeep JC w0 sp dp st' (saveS fp8 S 0 256 bs false).1 R W' := by
  obtain ⟨F, h1, h2, h3, h4⟩ := h
  refine (JC.save h1 (hs.under h3 hs.1) (fun j hj => Nat.lt_of_lt_of_le hs.1 (h2 j hj)) v bs (h4 _ hv).1 (h4 _ hv).2 hl hd hm ho).mono ?_
  rintro e W' ⟨rfl, st', h5, h6⟩
  exact ⟨rfl, st', h5, JKeep.step h2 h3 h4 h6⟩
theorem jk_append {n nu p : Nat} (h : JKeep JC w0 sp dp ⟨true, n, nu, p⟩ S R W) {v : Value} {bs : List UInt8} (hv : Rd w0 v bs) (hl : bs.length ≤ 4096) (hp : p + cntR bs.length ≤ 1024) (hnu : nu < 1000000) (hn : n ≤ 1000000) (hd : S.dead = false) (ho : S.ops < 50000) :
    Calls Tryd.prog 10 #[sp, v] W fun e W' => e = .returned (.int .i64 ((layS S p (partsR bs n nu)).2 : Int)) ∧ ∃ st', ((layS S p (partsR bs n nu)).2 = 0 → st' = ⟨true, n, nu + 1, p + cntR bs.length⟩) ∧ JKeep JC w0 sp dp st' (layS S p (partsR bs n nu)).1 R W' := by
  obtain ⟨F, h1, h2, h3, h4⟩ := h
  refine (JC.append h1 v bs (hv.below h3) (old_beside h2 hv) hl hp hnu hn hd ho).mono ?_
  rintro e W' ⟨rfl, st', h5, h6⟩
  exact ⟨rfl, st', h5, JKeep.step h2 h3 h4 h6⟩
theorem jk_recover (h : JKeep JC w0 sp dp st S R W) (hs : Salts w0) (rs : List (List UInt8)) (hr : ∀ b n s, loadS fp8 S 0 256 = some (b, n, s) → Recs (viewS S 0) n 0 512 rs) :
    Calls Tryd.prog 13 #[sp] W fun e W' => RecovAns W' (loadS fp8 S 0 256) rs e ∧ JKeep JC w0 sp dp st S R W' ∧ Below W.heap.size W W' := by
  have hk := h
  obtain ⟨F, h1, h2, h3, h4⟩ := h
  exact (JC.recover h1 (hs.under h3 hs.1) rs hr).mono fun _ _ ⟨h5, h6⟩ => ⟨h5, hk.on h6, h6⟩
theorem dk_fuse (h : DKeep DC w0 dp S R W) (n : Int) (hn : (Lit.int .i64 n).wf = true) : Calls Tryd.prog 8 #[dp, .int .i64 n] W fun e W' => (∃ c, e = .returned c) ∧ DKeep DC w0 dp (fuseS S n).1 R W' := by
  obtain ⟨F, h1, h2, h3, h4⟩ := h
  refine (DC.fuse h1 n hn).mono ?_
  rintro e W' ⟨rfl, h5⟩
  exact ⟨⟨_, rfl⟩, DKeep.step h2 h3 h4 h5⟩
theorem dk_boot (h : DKeep DC w0 dp S R W) {v : Value} {fs : List UInt8} (hv : Rd w0 v fs) (hl : fs.length ≤ 1000) : Calls Tryd.prog 12 #[dp, v] W fun e W' => e = .returned (.tuple #[]) ∧ DKeep DC w0 dp (bootS S fs) R W' := by
  obtain ⟨F, h1, h2, h3, h4⟩ := h
  refine (DC.boot h1 v fs (hv.below h3) hl (old_beside h2 hv)).mono ?_
  rintro e W' ⟨rfl, h5⟩
  exact ⟨rfl, DKeep.step h2 h3 h4 h5⟩
theorem dk_dead (h : DKeep DC w0 dp S R W) : Calls Tryd.prog 11 #[dp] W fun e W' => e = .returned (.bool S.dead) ∧ DKeep DC w0 dp S R W' := by
  have hk := h
  obtain ⟨F, h1, h2, h3, h4⟩ := h
  exact (DC.dead h1).mono fun _ _ ⟨h5, h6⟩ => ⟨h5, hk.on h6⟩
/-- A fuse is set while a store stands on the disk. -/
theorem jk_fuse (h : JKeep JC w0 sp dp st S R W) (n : Int) (hn : (Lit.int .i64 n).wf = true) : Calls Tryd.prog 8 #[dp, .int .i64 n] W fun e W' => (∃ c, e = .returned c) ∧ JKeep JC w0 sp dp st (fuseS S n).1 R W' := by
  obtain ⟨F, ⟨F1, F2, h1, h2, h3, rfl⟩, h4, h5, h6⟩ := h
  refine (DC.fuse h1 n hn).mono ?_
  rintro e W' ⟨rfl, ⟨F', h7, h8⟩, h9⟩
  refine ⟨⟨_, rfl⟩, JKeep.step h4 h5 h6 ⟨⟨_, ⟨F', F2, h7, JC.other h2 h9 fun j hj e => h3 j e hj, fun j hj e => ?_, rfl⟩, fun j hj => ?_⟩, h9.mono fun j hj => .inl hj⟩⟩
  · rcases h8 j hj with h10 | h10
    · exact h3 j h10 e
    · have := JC.lt h2 j e
      omega
  · rcases hj with hj | hj
    · exact (h8 j hj).imp .inl id
    · exact .inl (.inr hj)
theorem jk_dead (h : JKeep JC w0 sp dp st S R W) : Calls Tryd.prog 11 #[dp] W fun e W' => e = .returned (.bool S.dead) ∧ JKeep JC w0 sp dp st S R W' := by
  have hk := h
  obtain ⟨F, ⟨F1, F2, h1, h2, h3, rfl⟩, h4, h5, h6⟩ := h
  exact (DC.dead h1).mono fun _ _ ⟨h7, h8⟩ => ⟨h7, hk.on h8⟩
end
end Go.Proofs.YtbodiioemohenaaDoor

/- The journal's example: an image is saved, two records are appended, the power goes and comes back; all of it is there. No program in sight. -/
namespace Go.Proofs.YtbodiioemohenaaDoor
open Go.RowKit

theorem joff_new : JOff newS := ⟨calm_new, fun i x _ _ hx => by
  rw [view_new] at hx
  injection hx with hx
  rw [← hx, show numOf z128 = 0 by decide]
  exact Nat.zero_le _⟩
theorem layS_none {S : DS} {p : Nat} {xs : List (List UInt8)} (hd : S.dead = false) (h0 : S.fuse = 0) (hp : p + xs.length ≤ 1024) (hx : ∀ x ∈ xs, x.length ≤ 128) : (layS S p xs).2 = 0 ∧ (layS S p xs).1.fuse = 0 := by
  obtain ⟨h3, h4, h5⟩ := writesS_none xs S p hd h0 hp hx
  unfold layS
  dsimp only
  rw [if_pos h3]
  unfold syncS
  rw [if_neg (by rw [h5]; decide)]
  dsimp only
  obtain ⟨h6, h7⟩ := burn_none h4
  rw [if_neg (by rw [h6]; decide)]
  exact ⟨rfl, h7⟩
theorem jn_example {S1 S2 S3 : DS} {e1 e2 e3 : Nat} (h1 : saveS fp8 newS 0 256 [105] false = (S1, e1)) (h2 : layS S1 512 (partsR [97] 1 0) = (S2, e2)) (h3 : layS S2 513 (partsR [98] 1 1) = (S3, e3)) :
    e1 = 0 ∧ e2 = 0 ∧ e3 = 0 ∧ S1.dead = false ∧ S2.dead = false ∧ S1.ops ≤ 400 ∧ S2.ops ≤ 800 ∧ (∃ s, loadS fp8 (bootS S3 []) 0 256 = some ([105], 1, s)) ∧ Recs (viewS (bootS S3 []) 0) 1 0 512 [[97], [98]] := by
  have m0 := most_new 0 256
  obtain ⟨a1, a2⟩ := save_none (wiped := false) fp8_length (S := newS) (a := 0) (k := 256) (bs := [105]) rfl rfl (by decide) (by decide) (by decide)
  have b1 := jsave_done joff_new (img := [105]) (by decide) (by rw [m0]; decide) a1
  have o1 := (save_cases (wiped := false) fp8_length calm_new (a := 0) (k := 256) (bs := [105]) (by decide) (by decide) (by decide)).1
  rw [h1] at a1 a2 b1 o1
  rw [m0] at b1
  have b1 : JOn S1 [105] 1 [] := b1
  obtain ⟨c1, c2⟩ := layS_none (p := 512) (xs := partsR [97] 1 0) b1.calm.on a2 (by decide) (append_short _ _ _)
  have d1 := jappend_done (b := [97]) b1 (by decide) (by decide) (by decide) c1
  have o2 := (lay_cases (p := 512) (xs := partsR [97] 1 0) b1.calm.on (by decide) (append_short _ _ _)).1
  have d1 : JOn (layS S1 512 (partsR [97] 1 0)).1 [105] 1 [[97]] := d1
  rw [h2] at c1 c2 d1 o2
  have d1 : JOn S2 [105] 1 [[97]] := d1
  obtain ⟨f1, f2⟩ := layS_none (p := 513) (xs := partsR [98] 1 1) d1.calm.on c2 (by decide) (append_short _ _ _)
  have g1 := jappend_done (b := [98]) d1 (by decide) (by decide) (by decide) f1
  have g1 : JOn (layS S2 513 (partsR [98] 1 1)).1 [105] 1 [[97], [98]] := g1
  rw [h3] at f1 g1
  have g1 : JOn S3 [105] 1 [[97], [98]] := g1
  obtain ⟨_, _, r1, r2⟩ := jrest g1 (by decide) []
  have o1 : S1.ops ≤ 0 + 256 + 1 := o1
  have o2 : S2.ops ≤ S1.ops + 1 + 1 := o2
  exact ⟨a1, c1, f1, b1.calm.on, d1.calm.on, by omega, by omega, r1, r2⟩
end Go.Proofs.YtbodiioemohenaaDoor

/- A turn of a journal: an image saved, rows appended, the power gone and back; what is found. No program in sight. Conditions: rows of at most 300 bytes, at most 5 of them. -/
namespace Go.Proofs.YtbodiioemohenaaDoor
open Go.RowKit

/-- There are always some records, and no more. -/
theorem recs_exist (V : View) (n : Nat) : ∀ (d nu p : Nat), 1024 - p ≤ d → ∃ rs, Recs V n nu p rs
  | d, nu, p, hd => by
    by_cases h : ∃ b, RecAt V n nu p b
    · obtain ⟨b, hb⟩ := h
      have h1 := cntR_pos b.length
      have h2 := hb.room
      match d with
      | 0 => omega
      | d + 1 =>
        obtain ⟨rs, h3, h4⟩ := recs_exist V n d (nu + 1) (p + cntR b.length) (by omega)
        exact ⟨b :: rs, ⟨hb, h3⟩, fun c hc => h4 c (by rw [List.length_cons, show nu + (rs.length + 1) = nu + 1 + rs.length by omega] at hc; exact hc)⟩
    · exact ⟨[], trivial, fun b hb => h ⟨b, hb⟩⟩
theorem fuse_off {S : DS} (h : JOff S) (n : Int) : JOff (fuseS S n).1 ∧ loadS fp8 (fuseS S n).1 0 256 = loadS fp8 S 0 256 ∧ mostS (fuseS S n).1 0 256 = mostS S 0 256 ∧ (fuseS S n).1.ops = S.ops := by
  unfold fuseS
  rw [if_neg (by rw [h.calm.on]; decide)]
  exact ⟨⟨⟨h.calm.on, h.calm.shut, h.calm.opn, ⟨h.calm.ok.low, h.calm.ok.rise, h.calm.ok.full⟩⟩, h.low⟩, rfl, rfl, rfl⟩
/-- What is found behind a turn that began on the disk S0: the image and what was appended, or one more; or what was there ahead. -/
structure JBack (S0 : DS) (m : Nat) (T : DS) (img : List UInt8) (f : Nat) (l : List (List UInt8)) (k : Nat) : Prop where
  off : JOff T
  most : mostS T 0 256 ≤ m + 1
  load : ((∃ s, loadS fp8 T 0 256 = some (img, m + 1, s)) ∧ ∃ rs, Recs (viewS T 0) (m + 1) 0 512 rs ∧ k ≤ rs.length ∧ rs.length ≤ k + 1 ∧ rs.length ≤ l.length ∧ rs = l.take rs.length) ∨
    (f ≠ 0 ∧ loadS fp8 T 0 256 = loadS fp8 S0 0 256)
/-- Within a turn, k rows appended. -/
structure JIn (S0 : DS) (m : Nat) (img : List UInt8) (f : Nat) (l : List (List UInt8)) (k : Nat) (st : JS) (S : DS) : Prop where
  k_le : k ≤ l.length
  ops : S.ops ≤ S0.ops + 257 + 4 * k
  way : (f = 0 ∧ st = ⟨true, m + 1, k, endR 512 (l.take k)⟩ ∧ JOn S img (m + 1) (l.take k) ∧ endR 512 (l.take k) ≤ 512 + 3 * k) ∨
    (f = 10 ∧ k = 0 ∧ S.dead = true ∧ ∀ fs, JBack S0 m (bootS S fs) img f l 0)
/-- A turn's end. -/
structure JOut (S0 : DS) (m : Nat) (img : List UInt8) (f : Nat) (l : List (List UInt8)) (k : Nat) (S : DS) : Prop where
  k_le : k ≤ l.length
  ops : S.ops ≤ S0.ops + 300
  dead : S.dead = true ∨ (f = 0 ∧ k = l.length)
  back : ∀ fs, JBack S0 m (bootS S fs) img f l k
theorem jin_save {S0 : DS} (h : JOff S0) {img : List UInt8} (hi : img.length ≤ 20000) (hm : mostS S0 0 256 < 1000000) (l : List (List UInt8)) {st : JS} (hs : (saveS fp8 S0 0 256 img false).2 = 0 → st = ⟨true, mostS S0 0 256 + 1, 0, 512⟩) :
    JIn S0 (mostS S0 0 256) img (saveS fp8 S0 0 256 img false).2 l 0 st (saveS fp8 S0 0 256 img false).1 := by
  obtain ⟨ho, hw⟩ := save_cases (wiped := false) fp8_length h.calm (a := 0) (k := 256) (bs := img) (by decide) (by decide) (by omega)
  refine ⟨Nat.zero_le _, by omega, ?_⟩
  rcases hw with ⟨h1, _⟩ | ⟨h1, h2, _⟩
  · exact .inl ⟨h1, hs h1, jsave_done h hi hm h1, Nat.le_refl _⟩
  · refine .inr ⟨h1, rfl, h2, fun fs => ?_⟩
    obtain ⟨h3, h4, h5⟩ := jsave_cut h hi hm h1 fs
    refine ⟨h3, h4, ?_⟩
    rcases h5 with h5 | ⟨h5, h6⟩
    · exact .inr ⟨by rw [h1]; decide, h5⟩
    · exact .inl ⟨h5, [], h6, Nat.le_refl _, Nat.zero_le _, Nat.zero_le _, rfl⟩
theorem take_snoc {l : List (List UInt8)} {k : Nat} (h : k < l.length) : l.take (k + 1) = l.take k ++ [l[k]] := List.take_succ_eq_append_getElem h
theorem cntR_300 {n : Nat} (h : n ≤ 300) : cntR n ≤ 3 := by
  unfold cntR
  split <;> omega
section
variable {S0 S : DS} {img : List UInt8} {f k m : Nat} {l : List (List UInt8)} {st st' : JS}
/-- A row appended: done. -/
theorem JIn.next (h : JIn S0 m img f l k st S) (hf : f = 0) (hl : l.length ≤ 5) (hk : k < l.length) (hb : l[k].length ≤ 300) (hm : m < 1000000)
    (he : (layS S (endR 512 (l.take k)) (partsR l[k] (m + 1) k)).2 = 0)
    (hs : (layS S (endR 512 (l.take k)) (partsR l[k] (m + 1) k)).2 = 0 → st' = ⟨true, m + 1, k + 1, endR 512 (l.take k) + cntR l[k].length⟩) :
    JIn S0 m img f l (k + 1) st' (layS S (endR 512 (l.take k)) (partsR l[k] (m + 1) k)).1 := by
  obtain ⟨P, hP⟩ : ∃ P, layS S (endR 512 (l.take k)) (partsR l[k] (m + 1) k) = P := ⟨_, rfl⟩
  rw [hP] at he hs ⊢
  have hc := cntR_300 hb
  rcases h.way with ⟨_, _, h2, h3⟩ | ⟨h1, _⟩
  · have hlen : (l.take k).length = k := by rw [List.length_take]; omega
    have ho := (lay_cases (p := endR 512 (l.take k)) (xs := partsR l[k] (m + 1) k) h2.calm.on (by rw [partsR_length]; omega) (append_short _ _ _)).1
    rw [partsR_length, hP] at ho
    have h4 := jappend_done (b := l[k]) h2 (by omega) (by omega) (by omega) (by rw [hlen, hP]; exact he)
    rw [hlen, ← take_snoc hk, hP] at h4
    have e := endR_snoc (l.take k) 512 l[k]
    rw [← take_snoc hk] at e
    exact ⟨hk, by have := h.ops; omega, .inl ⟨hf, by rw [hs he, e], h4, by omega⟩⟩
  · omega
/-- A row appended: cut off. -/
theorem JIn.cut (h : JIn S0 m img f l k st S) (hf : f = 0) (hl : l.length ≤ 5) (hk : k < l.length) (hb : l[k].length ≤ 300) (hm : m < 1000000)
    (he : (layS S (endR 512 (l.take k)) (partsR l[k] (m + 1) k)).2 ≠ 0) :
    JOut S0 m img f l k (layS S (endR 512 (l.take k)) (partsR l[k] (m + 1) k)).1 := by
  obtain ⟨P, hP⟩ : ∃ P, layS S (endR 512 (l.take k)) (partsR l[k] (m + 1) k) = P := ⟨_, rfl⟩
  rw [hP] at he ⊢
  have hc := cntR_300 hb
  rcases h.way with ⟨_, _, h2, h3⟩ | ⟨h1, _⟩
  · have hlen : (l.take k).length = k := by rw [List.length_take]; omega
    obtain ⟨ho, hw⟩ := lay_cases (p := endR 512 (l.take k)) (xs := partsR l[k] (m + 1) k) h2.calm.on (by rw [partsR_length]; omega) (append_short _ _ _)
    rw [partsR_length, hP] at ho
    rw [hP] at hw
    rcases hw with ⟨h4, _⟩ | ⟨h4, h5, _⟩
    · exact absurd h4 he
    · refine ⟨h.k_le, by have := h.ops; omega, .inl h5, fun fs => ?_⟩
      obtain ⟨h6, h7, h8, h9⟩ := jappend_cut (b := l[k]) h2 (by omega) (by omega) (by omega) (by rw [hlen, hP]; exact h4) fs
      rw [hlen, hP] at h6 h7 h8 h9
      refine ⟨h6, Nat.le_of_eq h7, .inl ⟨h8, ?_⟩⟩
      rcases h9 with h9 | h9
      · exact ⟨_, h9, by omega, by omega, by omega, by rw [hlen]⟩
      · rw [← take_snoc hk] at h9
        have hlen2 : (l.take (k + 1)).length = k + 1 := by rw [List.length_take]; omega
        exact ⟨_, h9, by omega, by omega, by omega, by rw [hlen2]⟩
  · omega
/-- Nothing more is appended. -/
theorem JIn.stop (h : JIn S0 m img f l k st S) (hl : l.length ≤ 5) (hk : f ≠ 0 ∨ k = l.length) : JOut S0 m img f l k S := by
  rcases h.way with ⟨h1, _, h2, h3⟩ | ⟨h1, h2, h3, h4⟩
  · have hk : k = l.length := by omega
    have hkl := h.k_le
    refine ⟨hkl, by have := h.ops; omega, .inr ⟨h1, hk⟩, fun fs => ?_⟩
    obtain ⟨h5, h6, h7, h8⟩ := jrest h2 (by omega) fs
    have hlen : (l.take k).length = k := by rw [List.length_take]; omega
    exact ⟨h5, Nat.le_of_eq h6, .inl ⟨h7, _, h8, by omega, by omega, by omega, by rw [hlen]⟩⟩
  · subst h2
    exact ⟨h.k_le, by have := h.ops; omega, .inl h3, h4⟩
end
end Go.Proofs.YtbodiioemohenaaDoor
