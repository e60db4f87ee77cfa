/- Part 41 of the words that the laws share: JrSv, JrAp, JrScr, SlotK, JournK. No condition of its own: each theorem says its own. -/
import Derived.Test.YtbodiioemohenaaDoorPart34
import Derived.Test.YtbodiioemohenaaDoorPart39
import Derived.Test.YtbodiioemohenaaDoorPart23
import Derived.Test.YtbodiioemohenaaDoorPart40
import Derived.Test.YtbodiioemohenaaDoorPart33

/- The developers' store as a whole: its disk, its pair; Open, Save, Append. Premises: the disk's and the slot's contracts. -/
namespace Go.Proofs.YtbodiioemohenaaDoor
open Go.RowKit

section
variable {DC : DiskW} {SC : SlotC DC}
theorem JvLeft.refl {w : World} {X D : Nat} {Y : Addr} {st : JS} {S : DS} {F : Nat → Prop} (h : JvAt DC SC w X D Y st S F) : JvLeft DC SC w w X D Y st S F := ⟨⟨F, h, fun _ hj => .inl hj⟩, Chg.refl _ _⟩
theorem JvLeft.trans {w W W' : World} {X D : Nat} {Y : Addr} {st' : JS} {S' : DS} {F F' : Nat → Prop} (hc : Chg F w W) (hF : ∀ j, F' j → F j ∨ w.heap.size ≤ j) (h : JvLeft DC SC W W' X D Y st' S' F') : JvLeft DC SC w W' X D Y st' S' F := by
  obtain ⟨⟨F2, h4, h5⟩, h6⟩ := h
  exact ⟨⟨F2, h4, fun j hj => (h5 j hj).elim (fun h => hF j h) fun h => .inr (Nat.le_trans hc.size h)⟩, hc.trans (h6.mono fun j hj => hF j hj)⟩
/-- The store's own block alone is written. -/
theorem JvAt.sole {w w' : World} {X D : Nat} {Y : Addr} {st st' : JS} {S : DS} {F : Nat → Prop} (h : JvAt DC SC w X D Y st S F) (hs : Sole w w' X) (hb : Blk w' X 51 (jsV (.pointer (some ⟨D, 0, none⟩)) (.pointer (some Y)) st')) : JvLeft DC SC w w' X D Y st' S F := by
  obtain ⟨F1, F2, h1, h2, h3, h4, rfl⟩ := h
  refine ⟨⟨_, ⟨F1, F2, ⟨hb, DC.other h1.dk (sole_only hs) fun j hj e => h1.ap j hj e, h1.ap⟩, SC.other h2 (sole_only hs) fun j hj e => h3 (by rw [← e]; exact hj), h3, h4, rfl⟩, fun _ hj => .inl hj⟩, (sole_only hs).mono fun j hj => .inr (.inr hj)⟩
/-- A call to the disk. -/
theorem jv_disk {w w' : World} {X D : Nat} {Y : Addr} {st : JS} {S S' : DS} {F1 F2 : Nat → Prop} (_h1 : JrAt DC w X D (.pointer (some Y)) st S F1) (h2 : SC.At w (.pointer (some Y)) (.pointer (some ⟨D, 0, none⟩)) 0 256 F2) (h3 : ¬ F2 X) (h4 : ∀ j, F1 j → ¬ F2 j) (hl : JrLeft DC w w' X D (.pointer (some Y)) st S' F1) : JvLeft DC SC w w' X D Y st S' (fun j => F1 j ∨ (F2 j ∨ j = X)) := by
  obtain ⟨⟨F1', h5, h6⟩, h7⟩ := hl
  have hlt := SC.lt h2
  refine ⟨⟨_, ⟨F1', F2, h5, SC.other h2 h7 fun j hj e => h4 j e hj, h3, fun j hj e => ?_, rfl⟩, fun j hj => ?_⟩, h7.mono fun j hj => .inl hj⟩
  · rcases h6 j hj with h8 | h8
    · exact h4 j h8 e
    · have := hlt j e
      omega
  · rcases hj with hj | hj
    · exact (h6 j hj).imp .inl id
    · exact .inl (.inr hj)
/-- A call to the pair. -/
theorem jv_pair {w w' : World} {X D : Nat} {Y : Addr} {st : JS} {S' : DS} {F G : Nat → Prop} (hb : Blk w X 51 (jsV (.pointer (some ⟨D, 0, none⟩)) (.pointer (some Y)) st)) (hX : ¬ G X) (hF : F = fun j => G j ∨ j = X) (hl : BLeft DC SC.At w w' (.pointer (some Y)) (.pointer (some ⟨D, 0, none⟩)) 0 256 S' G) : JvLeft DC SC w w' X D Y st S' F := by
  subst hF
  obtain ⟨⟨G', ⟨F1, F2, h1, h2, h3, rfl⟩, h4⟩, h5⟩ := hl
  have hn : ∀ j, F1 j ∨ F2 j → j ≠ X := fun j hj e => by
    subst e
    rcases h4 j hj with h6 | h6
    · exact hX h6
    · have := hb.lt
      omega
  refine ⟨⟨_, ⟨F1, F2, ⟨h5.blk hb hX, h1, fun j hj => hn j (.inl hj)⟩, h2, fun e => hn X (.inr e) rfl, h3, rfl⟩, fun j hj => ?_⟩, h5.mono fun j hj => .inl hj⟩
  rcases hj with hj | hj | hj
  · exact (h4 j (.inl hj)).imp .inl id
  · exact (h4 j (.inr hj)).imp .inl id
  · exact .inl (.inr hj)
set_option maxRecDepth 100000 in
set_option maxHeartbeats 1000000 in
theorem jOpen_any {w : World} {D : Nat} {S : DS} {F : Nat → Prop} (h : DC.Is w (.pointer (some ⟨D, 0, none⟩)) S F) :
    Calls Tryd.prog 7 #[.pointer (some ⟨D, 0, none⟩)] w fun e w' => ∃ X Y G, e = .returned (.tuple #[.pointer (some ⟨X, 0, none⟩), .int .i64 0]) ∧ Blk w' X 51 (jsV (.pointer (some ⟨D, 0, none⟩)) (.pointer (some Y)) ⟨false, 0, 0, 0⟩) ∧ SC.At w' (.pointer (some Y)) (.pointer (some ⟨D, 0, none⟩)) 0 256 G ∧ (∀ j, G j → w.heap.size ≤ j) ∧ ¬ G X ∧ w.heap.size ≤ X ∧ Below w.heap.size w w' := by
  have HO : Hid (Calls Tryd.prog 18 #[.pointer (some ⟨D, 0, none⟩), .int .i64 0, .int .i64 256] w fun e w' => ∃ X, e = .returned (.tuple #[.pointer (some X), .int .i64 0]) ∧ (∃ G, SC.At w' (.pointer (some X)) (.pointer (some ⟨D, 0, none⟩)) 0 256 G ∧ ∀ j, G j → w.heap.size ≤ j) ∧ Below w.heap.size w w') := Lib.hid (SC.opn h 0 256 (WalkArith.wf_i64 (by omega)) (WalkArith.wf_i64 (by omega)) (by omega) (by omega) (by omega))
  clear h
  go_enter Tryd.func7, Tryd.ntmps7
  go_wp2_with (fail)
  refine HO.out.mono ?_
  rintro e w1 ⟨Y, rfl, ⟨G, h1, h2⟩, b1⟩
  have H1 := Lib.hid h1
  have H2 := Lib.hid h2
  have B1 := Lib.hid b1
  clear h1 h2 b1
  go_wp2_with (fail)
  go_ret2
  have hb := Blk.made w1 51 (jsV (.pointer (some ⟨D, 0, none⟩)) (.pointer (some Y)) ⟨false, 0, 0, 0⟩)
  have hlt := SC.lt H1.out
  have hn : ∀ o : Obj, Below w1.heap.size w1 (w1.alloc o) := fun o => (Below.refl _ _).alloc (Nat.le_refl _) _
  refine ⟨w1.heap.size, Y, G, rfl, hb, SC.other H1.out (Chg.of_below (hn _)) fun j hj e => (by have := hlt j hj; omega), H2.out, fun e => (by have := hlt _ e; omega), B1.out.size, B1.out.trans ((hn _).mono B1.out.size)⟩
theorem save_cd (S : DS) (bs : List UInt8) (hd : S.dead = false) (hb : bs.length ≤ 20000) : (saveS fp8 S 0 256 bs false).2 = 0 ∨ (saveS fp8 S 0 256 bs false).2 = 10 := by
  have hr := at_room fp8 S (a := 0) (k := 256) (by decide)
  have hcnt := cntS_le (k := 256) (l := bs.length) (by omega) (by decide)
  have hlen := laidS_length (fp := fp8) (n := mostS S 0 256 + 1) (wiped := false) hcnt
  obtain ⟨j, k1, k2, k3, k4⟩ := writesS_is (laidS fp8 bs (mostS S 0 256 + 1) 256 false) S (0 + 256 * (1 - slotN (loadS fp8 S 0 256))) hd (by omega) (laidS_short fp8_length)
  unfold saveS
  generalize hg : writesS S (0 + 256 * (1 - slotN (loadS fp8 S 0 256))) (laidS fp8 bs (mostS S 0 256 + 1) 256 false) = r at k2 k3 k4
  dsimp only
  rcases k4 with ⟨k5, k6, k7⟩ | ⟨k5, k6⟩
  · rw [if_pos k5]
    exact sync_cd _
  · rw [if_neg (by rw [k5]; decide)]
    exact .inr k5
set_option maxRecDepth 100000 in
set_option maxHeartbeats 2000000 in
theorem jSave_any {w : World} {X D : Nat} {Y : Addr} {st : JS} {S : DS} {F : Nat → Prop} (h : JvAt DC SC w X D Y st S F) (hs : Salts w) (hF : ∀ j, F j → 0 < j) (u : Value) (bs : List UInt8) (hr : Rd w u bs) (hu : 0 < bs.length → ∀ j, u.ownBlock = some j → ¬ F j) (hb : bs.length ≤ 20000) (hd : S.dead = false) (hm : mostS S 0 256 < 1000000) (ho : S.ops < 50000) :
    Calls Tryd.prog 9 #[.pointer (some ⟨X, 0, none⟩), u] w fun e w' => e = .returned (.int .i64 ((saveS fp8 S 0 256 bs false).2 : Int)) ∧ ∃ st', ((saveS fp8 S 0 256 bs false).2 = 0 → st' = ⟨true, mostS S 0 256 + 1, 0, 512⟩) ∧ JvLeft DC SC w w' X D Y st' (saveS fp8 S 0 256 bs false).1 F := by
  have HN : Hid (Calls Tryd.prog 20 #[.pointer (some ⟨X, 0, none⟩)] w fun e w' => e = .returned (.bool false) ∧ w' = w) := Lib.hid (jIsNone_any h.pr)
  obtain ⟨w1, hw1⟩ : ∃ W : World, W = w.setCell ⟨X, 2, none⟩ (.bool false) := ⟨_, rfl⟩
  have hp1 : Blk w1 X 51 (jsV (.pointer (some ⟨D, 0, none⟩)) (.pointer (some Y)) ⟨false, st.n, st.next, st.p⟩) := by
    rw [hw1]
    exact h.pr.set 2 (.bool false)
  have hs1 : Sole w w1 X := by rw [hw1]; exact Sole.setCell _ _ _ _
  have L1 := h.sole hs1 hp1
  have hX : F X := by
    obtain ⟨F1, F2, _, _, _, _, rfl⟩ := h
    exact .inr (.inr rfl)
  have hr1 : Rd w1 u bs := chg_rd0 (sole_only hs1) hr fun h0 j hj e => by
    have e1 : j = X := e
    subst e1
    exact hu h0 j hj hX
  have hsa1 : Salts w1 := ⟨by rw [hs1.size]; exact hs.1, fun i hi => ((sole_only hs1).cell (p := ⟨0, i, none⟩) hs.1 fun e => by have e1 : 0 = X := e; have := hF X hX; omega).trans (hs.2 i hi)⟩
  obtain ⟨cd, hcd⟩ : ∃ cd, cd = (saveS fp8 S 0 256 bs false).2 := ⟨_, rfl⟩
  obtain ⟨S', hS'⟩ : ∃ S', S' = (saveS fp8 S 0 256 bs false).1 := ⟨_, rfl⟩
  obtain ⟨m, hmm⟩ : ∃ m, m = mostS S 0 256 + 1 := ⟨_, rfl⟩
  have HSV : Hid (Calls Tryd.prog 21 #[.pointer (some Y), u] w1 fun e w' => ∃ n, e = .returned (.tuple #[n, .int .i64 (cd : Int)]) ∧ (cd = 0 → n = .int .u64 (m : Int)) ∧ JvLeft DC SC w w' X D Y ⟨false, st.n, st.next, st.p⟩ S' F) := Lib.hid (by
    obtain ⟨⟨F', h1, h2⟩, h3⟩ := L1
    obtain ⟨G, hB, hGX, hFG⟩ := h1.both
    refine (SC.save hB hsa1 (fun j hj => ?_) (by decide) (by decide) u bs hr1 (fun h0 j hj e => ?_) (by omega) hd hm (by omega)).mono ?_
    · rcases h2 j (by rw [hFG]; exact .inl hj) with h4 | h4
      · exact hF j h4
      · have := hs.1
        omega
    · rcases h2 j (by rw [hFG]; exact .inl e) with h4 | h4
      · exact hu h0 j hj h4
      · have := rd_elder hr j hj h0
        omega
    rintro e w' ⟨n, rfl, hn, hl⟩
    rw [hcd, hS', hmm]
    exact ⟨n, rfl, hn, JvLeft.trans h3 h2 (jv_pair h1.pr hGX hFG hl)⟩)
  rw [← hcd, ← hS', ← hmm]
  have HBG : Hid (∀ W, JvLeft DC SC w W X D Y ⟨false, st.n, st.next, st.p⟩ S' F → Calls Tryd.prog 22 #[.pointer (some ⟨X, 0, none⟩), .int .u64 (m : Int)] W fun e W' => e = .returned (.tuple #[]) ∧ JvLeft DC SC w W' X D Y ⟨true, m, 0, 512⟩ S' F) := Lib.hid fun W hW => by
    obtain ⟨⟨F', h1, h2⟩, h3⟩ := hW
    refine (jBegin_any h1.pr m).mono ?_
    rintro e W' ⟨rfl, hb, hs⟩
    exact ⟨rfl, JvLeft.trans h3 h2 (h1.sole hs hb)⟩
  have c2 : w.cell? ⟨X, 2, none⟩ = some (.bool st.fresh) := by rw [h.pr.cell]; rfl
  have f2 : w.frozen? ⟨X, 2, none⟩ = false := h.pr.free 2
  have c1 : w1.cell? ⟨X, 1, none⟩ = some (.pointer (some Y)) := by rw [hp1.cell]; rfl
  have HCD : Hid (cd = 0 ∨ cd = 10) := Lib.hid (by
    rw [hcd]
    exact save_cd S bs hd hb)
  clear h hs hF hr hu hb hd hm ho hp1 hs1 L1 hX hr1 hsa1 hcd hS' hmm
  go_enter Tryd.func9, Tryd.ntmps9
  go_wp2_with (fail)
  refine HN.out.mono ?_
  rintro e w0 ⟨rfl, rfl⟩
  go_upto_region 4 with (fail)
  rw [← hw1]
  clear hw1 c2 f2
  go_wp2_with (fail)
  refine HSV.out.mono ?_
  rintro e w2 ⟨n, rfl, hn, hl⟩
  have HN2 := Lib.hid hn
  have L2 := Lib.hid hl
  clear hn hl c1
  rcases HCD.out with rfl | rfl
  · obtain rfl := HN2.out rfl
    go_wp2_with (fail)
    refine (HBG.out w2 L2.out).mono ?_
    rintro e w3 ⟨rfl, hl⟩
    have L3 := Lib.hid hl
    clear hl
    go_wp2_with (fail)
    go_ret
    exact ⟨rfl, L3.out⟩
  · go_wp2_with (fail)
    go_ret
    exact ⟨rfl, _, fun h => (by cases h), L2.out⟩
end
end Go.Proofs.YtbodiioemohenaaDoor

/- The developers' Append, of a fresh store and of one that isn't. Premises: the disk's and the slot's contracts. -/
namespace Go.Proofs.YtbodiioemohenaaDoor
open Go.RowKit

section
variable {DC : DiskW} {SC : SlotC DC}
set_option maxRecDepth 100000 in
set_option maxHeartbeats 1000000 in
theorem jStale_any {w : World} {X D : Nat} {Y : Addr} {st : JS} {S : DS} {F : Nat → Prop} (h : JvAt DC SC w X D Y st S F) (hf : st.fresh = false) (u : Value) :
    Calls Tryd.prog 10 #[.pointer (some ⟨X, 0, none⟩), u] w fun e w' => e = .returned (.int .i64 13) ∧ w' = w := by
  have HN : Hid (Calls Tryd.prog 20 #[.pointer (some ⟨X, 0, none⟩)] w fun e w' => e = .returned (.bool false) ∧ w' = w) := Lib.hid (jIsNone_any h.pr)
  have c2 : w.cell? ⟨X, 2, none⟩ = some (.bool false) := by rw [h.pr.cell, ← hf]; rfl
  clear h hf
  go_enter Tryd.func10, Tryd.ntmps10
  go_wp2_with (fail)
  refine HN.out.mono ?_
  rintro e w1 ⟨rfl, rfl⟩
  go_wp2_with (fail)
  go_ret
  exact ⟨rfl, rfl⟩
/-- What a call of the disk's leaves, seen from where the store's own block was written. -/
def ApLeft (DC : DiskW) (SC : SlotC DC) (w : World) (X D : Nat) (Y : Addr) (S' : DS) (F : Nat → Prop) (cd : Nat) (nw : JS) (W : World) : Prop := ∃ st', (cd = 0 → st' = nw) ∧ JvLeft DC SC w W X D Y st' S' F
theorem writes_cd {S : DS} {p : Nat} {xs : List (List UInt8)} (hd : S.dead = false) (hp : p + xs.length ≤ 1024) (hx : ∀ x ∈ xs, x.length ≤ 128) : (writesS S p xs).1.ops ≤ S.ops + xs.length ∧ ((writesS S p xs).2 = 0 ∨ (writesS S p xs).2 = 10) := by
  obtain ⟨j, k1, k2, k3, k4⟩ := writesS_is xs S p hd hp hx
  exact ⟨k3, k4.elim (fun h => .inl h.1) fun h => .inr h.1⟩
theorem partsR_short (bs : List UInt8) (n nu : Nat) : ∀ x ∈ partsR bs n nu, x.length ≤ 128 := fun x hx => by
  unfold partsR at hx
  obtain ⟨i, _, rfl⟩ := List.mem_map.1 hx
  exact partR_length bs n nu i
set_option maxRecDepth 100000 in
set_option maxHeartbeats 4000000 in
theorem jAppend_any {w : World} {X D : Nat} {Y : Addr} {n nu p : Nat} {S : DS} {F : Nat → Prop} (h : JvAt DC SC w X D Y ⟨true, n, nu, p⟩ S F) (u : Value) (bs : List UInt8) (hr : Rd w u bs) (hu : 0 < bs.length → ∀ j, u.ownBlock = some j → ¬ F j) (hb : bs.length ≤ 4096) (hp : p + cntR bs.length ≤ 1024) (hnu : nu < 1000000) (hn : n ≤ 1000000) (hd : S.dead = false) (ho : S.ops < 50000) :
    Calls Tryd.prog 10 #[.pointer (some ⟨X, 0, none⟩), u] w fun e w' => e = .returned (.int .i64 ((layS S p (partsR bs n nu)).2 : Int)) ∧ ApLeft DC SC w X D Y (layS S p (partsR bs n nu)).1 F (layS S p (partsR bs n nu)).2 ⟨true, n, nu + 1, p + cntR bs.length⟩ w' := by
  obtain ⟨Ab, cb, rfl, hcb, hcm, hA⟩ := hr.form
  have HN : Hid (Calls Tryd.prog 20 #[.pointer (some ⟨X, 0, none⟩)] w fun e w' => e = .returned (.bool false) ∧ w' = w) := Lib.hid (jIsNone_any h.pr)
  have HP : Hid (∀ W, Calls Tryd.prog 23 #[.int .i64 (bs.length : Int)] W fun e W' => e = .returned (.int .i64 (cntR bs.length : Int)) ∧ W' = W) := Lib.hid fun W => jParts_any bs.length (by omega) W
  have HLF : Hid (Calls Tryd.prog 24 #[.pointer (some ⟨X, 0, none⟩)] w fun e w' => e = .returned (.int .i64 ((1024 - p : Nat) : Int)) ∧ w' = w) := Lib.hid (jLeft_any h.pr (show p ≤ 1024 by omega))
  have c2 : w.cell? ⟨X, 2, none⟩ = some (.bool true) := by rw [h.pr.cell]; rfl
  have f2 : w.frozen? ⟨X, 2, none⟩ = false := h.pr.free 2
  obtain ⟨w1, hw1⟩ : ∃ W : World, W = w.setCell ⟨X, 2, none⟩ (.bool false) := ⟨_, rfl⟩
  have hp1 : Blk w1 X 51 (jsV (.pointer (some ⟨D, 0, none⟩)) (.pointer (some Y)) ⟨false, n, nu, p⟩) := by
    rw [hw1]
    exact h.pr.set 2 (.bool false)
  have hs1 : Sole w w1 X := by rw [hw1]; exact Sole.setCell _ _ _ _
  have hX : F X := by
    obtain ⟨F1, F2, _, _, _, _, rfl⟩ := h
    exact .inr (.inr rfl)
  have hr1 : Rd w1 (.slice Ab bs.length cb) bs := chg_rd0 (sole_only hs1) hr fun h0 j hj e => by
    have e1 : j = X := e
    subst e1
    exact hu h0 j hj hX
  have L1 : JvLeft DC SC w w1 X D Y ⟨false, n, nu, p⟩ S F := h.sole hs1 hp1
  obtain ⟨r, hrr⟩ : ∃ r, r = writesS S p (partsR bs n nu) := ⟨_, rfl⟩
  have hwc := writes_cd hd (by rw [partsR_length]; exact hp) (partsR_short bs n nu)
  rw [← hrr, partsR_length] at hwc
  have hly : layS S p (partsR bs n nu) = if r.2 = 0 then syncS r.1 else r := by rw [hrr]; rfl
  rw [hly]
  clear hly
  obtain ⟨S1, cd1⟩ := r
  have hwc : S1.ops ≤ S.ops + cntR bs.length ∧ (cd1 = 0 ∨ cd1 = 10) := hwc
  obtain ⟨SR, hSR⟩ : ∃ SR : DS, SR = (if (S1, cd1).2 = 0 then syncS (S1, cd1).1 else (S1, cd1)).1 := ⟨_, rfl⟩
  obtain ⟨cR, hcR⟩ : ∃ cR : Nat, cR = (if (S1, cd1).2 = 0 then syncS (S1, cd1).1 else (S1, cd1)).2 := ⟨_, rfl⟩
  rw [← hSR, ← hcR]
  have HE0 : Hid (cd1 = 0 → SR = (syncS S1).1 ∧ cR = (syncS S1).2) := Lib.hid fun h0 => by
    subst h0
    exact ⟨hSR, hcR⟩
  have HE1 : Hid (cd1 = 10 → SR = S1 ∧ cR = 10) := Lib.hid fun h0 => by
    subst h0
    exact ⟨hSR, hcR⟩
  clear hSR hcR
  have HLAY : Hid (Calls Tryd.prog 25 #[.pointer (some ⟨X, 0, none⟩), .slice Ab bs.length cb] w1 fun e W' => e = .returned (.int .i64 (cd1 : Int)) ∧ JvLeft DC SC w W' X D Y ⟨false, n, nu, p⟩ S1 F) := Lib.hid (by
    obtain ⟨⟨F', ⟨F1, F2, h1, h2, h3, h4, rfl⟩, h5⟩, h6⟩ := L1
    refine (jLay_any h1 _ bs hr1 (fun h0 j hj e => ?_) hb hp (show n < 256 ^ 8 by omega) hnu hd (by omega)).mono ?_
    · rcases h5 j (.inl e) with h7 | h7
      · exact hu h0 j hj h7
      · have := rd_elder hr j hj h0
        omega
    rintro e W' ⟨rfl, hl⟩
    have hl : JrLeft DC w1 W' X D (.pointer (some Y)) ⟨false, n, nu, p⟩ (writesS S p (partsR bs n nu)).1 F1 := hl
    refine ⟨?_, JvLeft.trans h6 h5 (jv_disk h1 h2 h3 h4 ?_)⟩
    · show Ending.returned (.int .i64 ((writesS S p (partsR bs n nu)).2 : Int)) = _
      rw [← hrr]
    · rw [← hrr] at hl
      exact hl)
  have HSYN : Hid (∀ W, JvLeft DC SC w W X D Y ⟨false, n, nu, p⟩ S1 F → Calls Tryd.prog 26 #[.pointer (some ⟨D, 0, none⟩)] W fun e W' => e = .returned (.int .i64 ((syncS S1).2 : Int)) ∧ JvLeft DC SC w W' X D Y ⟨false, n, nu, p⟩ (syncS S1).1 F) := Lib.hid fun W hW => by
    obtain ⟨⟨F', ⟨F1, F2, h1, h2, h3, h4, rfl⟩, h5⟩, h6⟩ := hW
    refine (DC.sync h1.dk (by omega)).mono ?_
    rintro e W' ⟨rfl, hl⟩
    exact ⟨rfl, JvLeft.trans h6 h5 (jv_disk h1 h2 h3 h4 (h1.left hl))⟩
  have HST : Hid (∀ (W W' : World) (st st' : JS) (S : DS), JvLeft DC SC w W X D Y st S F → Sole W W' X → Blk W' X 51 (jsV (.pointer (some ⟨D, 0, none⟩)) (.pointer (some Y)) st') → JvLeft DC SC w W' X D Y st' S F) := Lib.hid fun W W' st st' S hW hs hb => by
    obtain ⟨⟨F', h1, h2⟩, h3⟩ := hW
    exact JvLeft.trans h3 h2 (h1.sole hs hb)
  have HPR : Hid (∀ (W : World) (st : JS) (S : DS), JvLeft DC SC w W X D Y st S F → Blk W X 51 (jsV (.pointer (some ⟨D, 0, none⟩)) (.pointer (some Y)) st)) := Lib.hid fun W st S hW => by
    obtain ⟨⟨F', h1, h2⟩, h3⟩ := hW
    exact h1.pr
  have lI : ¬ (4096 : Int) < (bs.length : Int) := by omega
  obtain ⟨c, hcc⟩ : ∃ c, c = cntR bs.length := ⟨_, rfl⟩
  obtain ⟨lf, hlf⟩ : ∃ lf, lf = 1024 - p := ⟨_, rfl⟩
  rw [← hcc] at HP hp ⊢
  rw [← hlf] at HLF
  have gI : ¬ (lf : Int) < (c : Int) := by omega
  have lI2 : (bs.length : Int) ≤ 4096 := by omega
  have HPP : Hid (p + c ≤ 1024) := Lib.hid hp
  obtain ⟨nv, hnv⟩ : ∃ nv, nv = nu + 1 := ⟨_, rfl⟩
  have e4 : IntKind.i64.wrap ((nu : Int) + 1) = (nv : Int) := by rw [IntWalk.i64_in _ (by omega)]; omega
  rw [← hnv]
  have HCD := Lib.hid hwc.2
  clear h hr hu hb hp hnu hn hd ho hp1 hs1 hX hr1 L1 hrr hwc hcb hcm hA hcc hlf hnv
  go_enter Tryd.func10, Tryd.ntmps10
  go_wp2_with (fail)
  refine HN.out.mono ?_
  rintro e w0 ⟨rfl, rfl⟩
  go_wp2_with (fail)
  refine (HP.out _).mono ?_
  rintro e w0' ⟨rfl, rfl⟩
  go_wp2_with (fail)
  refine HLF.out.mono ?_
  rintro e w0'' ⟨rfl, rfl⟩
  go_upto_region 8 with (fail)
  rw [← hw1]
  clear hw1 c2 f2
  go_wp2_with (fail)
  refine HLAY.out.mono ?_
  rintro e w2 ⟨rfl, hl⟩
  have L2 := Lib.hid hl
  clear hl
  rcases HCD.out with rfl | rfl
  · have c0 : w2.cell? ⟨X, 0, none⟩ = some (.pointer (some ⟨D, 0, none⟩)) := by rw [(HPR.out _ _ _ L2.out).cell]; rfl
    obtain ⟨cd2, hcd2⟩ : ∃ cd2, cd2 = (syncS S1).2 := ⟨_, rfl⟩
    obtain ⟨S2, hS2⟩ : ∃ S2, S2 = (syncS S1).1 := ⟨_, rfl⟩
    have HSY : Hid (Calls Tryd.prog 26 #[.pointer (some ⟨D, 0, none⟩)] w2 fun e W' => e = .returned (.int .i64 (cd2 : Int)) ∧ JvLeft DC SC w0'' W' X D Y ⟨false, n, nu, p⟩ S2 F) := Lib.hid (by
      rw [hcd2, hS2]
      exact HSYN.out w2 L2.out)
    have HC2 : Hid (cd2 = 0 ∨ cd2 = 10) := Lib.hid (by
      rw [hcd2]
      exact sync_cd S1)
    have HE2 : Hid (SR = S2 ∧ cR = cd2) := Lib.hid (by
      rw [hS2, hcd2]
      exact HE0.out rfl)
    clear hcd2 hS2
    go_wp2_with (fail)
    refine HSY.out.mono ?_
    rintro e w3 ⟨rfl, hl⟩
    have L3 := Lib.hid hl
    clear hl c0
    rcases HC2.out with rfl | rfl
    · have hb3 := HPR.out _ _ _ L3.out
      have d2 : w3.cell? ⟨X, 2, none⟩ = some (.bool false) := by rw [hb3.cell]; rfl
      have g2 : w3.frozen? ⟨X, 2, none⟩ = false := hb3.free 2
      obtain ⟨w4, hw4⟩ : ∃ W : World, W = w3.setCell ⟨X, 2, none⟩ (.bool true) := ⟨_, rfl⟩
      have hb4 : Blk w4 X 51 (jsV (.pointer (some ⟨D, 0, none⟩)) (.pointer (some Y)) ⟨true, n, nu, p⟩) := by
        rw [hw4]
        exact hb3.set 2 (.bool true)
      have L4 := Lib.hid (HST.out _ w4 _ ⟨true, n, nu, p⟩ _ L3.out (by rw [hw4]; exact Sole.setCell _ _ _ _) hb4)
      clear hb3 hb4
      go_upto_region 15 with (fail)
      rw [← hw4]
      clear hw4 d2 g2
      have hb4 := HPR.out _ _ _ L4.out
      have d4 : w4.cell? ⟨X, 4, none⟩ = some (.int .i64 (nu : Int)) := by rw [hb4.cell]; rfl
      have g4 : w4.frozen? ⟨X, 4, none⟩ = false := hb4.free 4
      obtain ⟨w5, hw5⟩ : ∃ W : World, W = w4.setCell ⟨X, 4, none⟩ (.int .i64 (nv : Int)) := ⟨_, rfl⟩
      have hb5 : Blk w5 X 51 (jsV (.pointer (some ⟨D, 0, none⟩)) (.pointer (some Y)) ⟨true, n, nv, p⟩) := by
        rw [hw5]
        exact hb4.set 4 (.int .i64 (nv : Int))
      have L5 := Lib.hid (HST.out _ w5 _ ⟨true, n, nv, p⟩ _ L4.out (by rw [hw5]; exact Sole.setCell _ _ _ _) hb5)
      clear hb4 hb5
      go_upto_region 16 with (fail)
      rw [← hw5]
      clear hw5 d4 g4
      have hb5 := HPR.out _ _ _ L5.out
      have d5 : ∀ m, (w5.drewN m).cell? ⟨X, 5, none⟩ = some (.int .i64 (p : Int)) := fun m => by rw [(hb5.drewN m).cell]; rfl
      have g5 : ∀ m, (w5.drewN m).frozen? ⟨X, 5, none⟩ = false := fun m => (hb5.drewN m).free 5
      have HB5 := Lib.hid hb5
      obtain ⟨pc, hpc⟩ : ∃ pc, pc = p + c := ⟨_, rfl⟩
      have e5 : IntKind.i64.wrap ((p : Int) + (c : Int)) = (pc : Int) := by
        have h1 := HPP.out
        rw [IntWalk.i64_in _ (by omega), hpc]
        omega
      have HPC := Lib.hid hpc
      clear hb5 hpc
      refine wp_quiet_tail 10 (by kernel_rfl) (by kernel_rfl) (by kernel_rfl) (by kernel_rfl) (by kernel_rfl) (by kernel_rfl) (by kernel_rfl) (by kernel_rfl) ?_
      simp only [List.take_succ_cons, List.take_zero, List.drop_succ_cons, List.drop_zero]
      repeat (go_big_quiet_step ((go_at_call 23; exact Calls.quiet_of_same (HP.out _))))
      refine wpQuiet_nil ?_
      intro wq hwq
      obtain ⟨nq, rfl⟩ := hwq
      have c5 := d5 nq
      have f5 := g5 nq
      clear d5 g5
      go_wp2_with (fail)
      go_ret
      rw [HE2.out.1, HE2.out.2]
      refine ⟨rfl, ?_⟩
      have hb6 := (HB5.out.drewN nq).set 5 (.int .i64 (pc : Int))
      rw [← HPC.out]
      refine ⟨⟨true, n, nv, pc⟩, fun _ => rfl, ?_⟩
      have L5q : JvLeft DC SC w0'' (w5.drewN nq) X D Y ⟨true, n, nv, p⟩ S2 F := by
        obtain ⟨⟨F', h1, h2⟩, h3⟩ := L5.out
        exact ⟨⟨F', h1.on (below_drewN (Below.refl _ _) nq), h2⟩, Chg.drewN _ h3 nq⟩
      exact HST.out _ _ _ ⟨true, n, nv, pc⟩ _ L5q (Sole.setCell _ _ _ _) hb6
    · go_wp2_with (fail)
      go_ret
      rw [HE2.out.1, HE2.out.2]
      exact ⟨rfl, _, fun h => (by cases h), L3.out⟩
  · go_wp2_with (fail)
    go_ret
    obtain ⟨e1, e2⟩ := HE1.out (by trivial)
    rw [e1, e2]
    exact ⟨rfl, _, fun h => (by cases h), L2.out⟩
end
end Go.Proofs.YtbodiioemohenaaDoor

/- The developers' Scrub, where no call fails. Premises: the disk's and the slot's contracts. -/
namespace Go.Proofs.YtbodiioemohenaaDoor
open Go.RowKit

theorem scrub_parts {S : DS} {bs : List UInt8} (he : (scrubS S bs).2 = 0) : ∃ S1 S2 S3 : DS, saveS fp8 S 0 256 bs true = (S1, 0) ∧ saveS fp8 S1 0 256 bs true = (S2, 0) ∧ clearS S2 (dirtyS S2) = (S3, 0) ∧ (syncS S3).2 = 0 ∧ scrubS S bs = syncS S3 := by
  unfold scrubS at he ⊢
  generalize saveS fp8 S 0 256 bs true = r1 at he ⊢
  obtain ⟨S1, c1⟩ := r1
  dsimp only at he ⊢
  by_cases h1 : c1 = 0
  · rw [if_pos h1] at he ⊢
    subst h1
    generalize hg : saveS fp8 S1 0 256 bs true = r2 at he ⊢
    obtain ⟨S2, c2⟩ := r2
    dsimp only at he ⊢
    by_cases h2 : c2 = 0
    · rw [if_pos h2] at he ⊢
      subst h2
      generalize hg3 : clearS S2 (dirtyS S2) = r3 at he ⊢
      obtain ⟨S3, c3⟩ := r3
      dsimp only at he ⊢
      by_cases h3 : c3 = 0
      · rw [if_pos h3] at he ⊢
        subst h3
        exact ⟨S1, S2, S3, rfl, hg, hg3, he, rfl⟩
      · rw [if_neg h3] at he
        exact absurd he h3
    · rw [if_neg h2] at he
      exact absurd he h2
  · rw [if_neg h1] at he
    exact absurd he h1
section
variable {DC : DiskW} {SC : SlotC DC}
set_option maxRecDepth 100000 in
set_option maxHeartbeats 4000000 in
theorem jScrub_any {w : World} {X D : Nat} {Y : Addr} {st : JS} {S : DS} {F : Nat → Prop} (h : JvAt DC SC w X D Y st S F) (hs : Salts w) (hF : ∀ j, F j → 0 < j) (u : Value) (bs : List UInt8) (hr : Rd w u bs) (hu : 0 < bs.length → ∀ j, u.ownBlock = some j → ¬ F j) (hb : bs.length ≤ 20000) (hd : S.dead = false) (hm : mostS S 0 256 < 1000000) (ho : S.ops < 50000) (he : (scrubS S bs).2 = 0) :
    Calls Tryd.prog 16 #[.pointer (some ⟨X, 0, none⟩), u] w fun e w' => e = .returned (.int .i64 0) ∧ JvLeft DC SC w w' X D Y ⟨true, mostS (saveS fp8 S 0 256 bs true).1 0 256 + 1, 0, 512⟩ (scrubS S bs).1 F := by
  have HN : Hid (Calls Tryd.prog 20 #[.pointer (some ⟨X, 0, none⟩)] w fun e w' => e = .returned (.bool false) ∧ w' = w) := Lib.hid (jIsNone_any h.pr)
  obtain ⟨w1, hw1⟩ : ∃ W : World, W = w.setCell ⟨X, 2, none⟩ (.bool false) := ⟨_, rfl⟩
  have hp1 : Blk w1 X 51 (jsV (.pointer (some ⟨D, 0, none⟩)) (.pointer (some Y)) ⟨false, st.n, st.next, st.p⟩) := by
    rw [hw1]
    exact h.pr.set 2 (.bool false)
  have hs1 : Sole w w1 X := by rw [hw1]; exact Sole.setCell _ _ _ _
  have L1 := h.sole hs1 hp1
  have hX : F X := by
    obtain ⟨F1, F2, _, _, _, _, rfl⟩ := h
    exact .inr (.inr rfl)
  have hr1 : Rd w1 u bs := chg_rd0 (sole_only hs1) hr fun h0 j hj e => by
    have e1 : j = X := e
    subst e1
    exact hu h0 j hj hX
  have hsa1 : Salts w1 := ⟨by rw [hs1.size]; exact hs.1, fun i hi => ((sole_only hs1).cell (p := ⟨0, i, none⟩) hs.1 fun e => by have e1 : 0 = X := e; have := hF X hX; omega).trans (hs.2 i hi)⟩
  obtain ⟨m, hmm⟩ : ∃ m, m = mostS (saveS fp8 S 0 256 bs true).1 0 256 + 1 := ⟨_, rfl⟩
  obtain ⟨S1, S2, S3, hS1, hS2, hS3, he4, hsc⟩ := scrub_parts he
  rw [hsc]
  have k1 := save_any_cases (S := S) (a := 0) (k := 256) (bs := bs) (wiped := true) hd (by decide) (by decide) (by omega) (by omega) (by rw [hS1])
  rw [hS1] at k1 hmm
  replace k1 : S1.dead = false ∧ S1.ops ≤ S.ops + 256 + 1 ∧ mostS S1 0 256 ≤ mostS S 0 256 + 1 := k1
  replace hmm : m = mostS S1 0 256 + 1 := hmm
  have k2 := save_any_cases (S := S1) (a := 0) (k := 256) (bs := bs) (wiped := true) k1.1 (by decide) (by decide) (by omega) (by have := k1.2.2; omega) (by rw [hS2])
  rw [hS2] at k2
  replace k2 : S2.dead = false ∧ S2.ops ≤ S1.ops + 256 + 1 ∧ mostS S2 0 256 ≤ mostS S1 0 256 + 1 := k2
  have HSV : Hid (Calls Tryd.prog 33 #[.pointer (some Y), u] w1 fun e w' => e = .returned (.tuple #[.int .u64 (m : Int), .int .i64 0]) ∧ JvLeft DC SC w w' X D Y ⟨false, st.n, st.next, st.p⟩ S2 F) := Lib.hid (by
    obtain ⟨⟨F', h1, h2⟩, h3⟩ := L1
    obtain ⟨G, hB, hGX, hFG⟩ := h1.both
    refine (SC.wipe hB hsa1 (fun j hj => ?_) (by decide) (by decide) u bs hr1 (fun h0 j hj e => ?_) (by omega) hd hm (by omega) (by rw [hS1])).mono ?_
    · rcases h2 j (by rw [hFG]; exact .inl hj) with h4 | h4
      · exact hF j h4
      · have := hs.1
        omega
    · rcases h2 j (by rw [hFG]; exact .inl e) with h4 | h4
      · exact hu h0 j hj h4
      · have := rd_elder hr j hj h0
        omega
    rintro e w' ⟨n, rfl, hn, hl⟩
    rw [hS1] at hn hl ⊢
    have hn : (saveS fp8 S1 0 256 bs true).2 = 0 → n = .int .u64 ((mostS S1 0 256 + 1 : Nat) : Int) := hn
    have hl : BLeft DC SC.At w1 w' (.pointer (some Y)) (.pointer (some ⟨D, 0, none⟩)) 0 256 (saveS fp8 S1 0 256 bs true).1 G := hl
    rw [hS2] at hn hl
    refine ⟨?_, JvLeft.trans h3 h2 (jv_pair h1.pr hGX hFG hl)⟩
    show Ending.returned (.tuple #[n, .int .i64 ((saveS fp8 S1 0 256 bs true).2 : Int)]) = _
    rw [hS2, hn rfl, hmm]
    rfl)
  have hcl : (clearS S2 (dirtyS S2)).2 = 0 := by rw [hS3]
  have HWP : Hid (∀ W, JvLeft DC SC w W X D Y ⟨false, st.n, st.next, st.p⟩ S2 F → Calls Tryd.prog 34 #[.pointer (some ⟨X, 0, none⟩)] W fun e W' => e = .returned (.int .i64 0) ∧ JvLeft DC SC w W' X D Y ⟨false, st.n, st.next, st.p⟩ (syncS S3).1 F) := Lib.hid fun W hW => by
    obtain ⟨⟨F', ⟨F1, F2, h1, h2, h3, h4, rfl⟩, h5⟩, h6⟩ := hW
    refine (jWipe_any h1 k2.1 (by have := k1.2.1; have := k2.2.1; omega) hcl).mono ?_
    rintro e W' ⟨rfl, hl⟩
    rw [hS3] at hl ⊢
    have hl : JrLeft DC W W' X D (.pointer (some Y)) ⟨false, st.n, st.next, st.p⟩ (syncS S3).1 F1 := hl
    refine ⟨?_, JvLeft.trans h6 h5 (jv_disk h1 h2 h3 h4 hl)⟩
    show Ending.returned (.int .i64 ((syncS S3).2 : Int)) = _
    rw [he4]
    rfl
  have HBG : Hid (∀ W, JvLeft DC SC w W X D Y ⟨false, st.n, st.next, st.p⟩ (syncS S3).1 F → Calls Tryd.prog 22 #[.pointer (some ⟨X, 0, none⟩), .int .u64 (m : Int)] W fun e W' => e = .returned (.tuple #[]) ∧ JvLeft DC SC w W' X D Y ⟨true, m, 0, 512⟩ (syncS S3).1 F) := Lib.hid fun W hW => by
    obtain ⟨⟨F', h1, h2⟩, h3⟩ := hW
    refine (jBegin_any h1.pr m).mono ?_
    rintro e W' ⟨rfl, hb, hs⟩
    exact ⟨rfl, JvLeft.trans h3 h2 (h1.sole hs hb)⟩
  have d2 : w.cell? ⟨X, 2, none⟩ = some (.bool st.fresh) := by rw [h.pr.cell]; rfl
  have f2 : w.frozen? ⟨X, 2, none⟩ = false := h.pr.free 2
  have d1 : w1.cell? ⟨X, 1, none⟩ = some (.pointer (some Y)) := by rw [hp1.cell]; rfl
  obtain ⟨S4, hS4⟩ : ∃ S4, S4 = (syncS S3).1 := ⟨_, rfl⟩
  rw [← hS4] at HWP HBG ⊢
  rw [hS1]
  have hgo : mostS (S1, (0 : Nat)).1 0 256 + 1 = m := hmm.symm
  rw [hgo]
  clear h hs hF hr hu hb hd hm ho hp1 hs1 L1 hX hr1 hsa1 hmm hS1 hS2 hS3 hsc he he4 k1 k2 hcl hS4 hgo
  go_enter Tryd.func16, Tryd.ntmps16
  go_wp2_with (fail)
  refine HN.out.mono ?_
  rintro e w0 ⟨rfl, rfl⟩
  go_upto_region 4 with (fail)
  rw [← hw1]
  clear hw1 d2 f2
  go_wp2_with (fail)
  refine HSV.out.mono ?_
  rintro e w2 ⟨rfl, hl⟩
  have L2 := Lib.hid hl
  clear hl d1
  go_wp2_with (fail)
  refine (HWP.out w2 L2.out).mono ?_
  rintro e w3 ⟨rfl, hl⟩
  have L3 := Lib.hid hl
  clear hl
  go_wp2_with (fail)
  refine (HBG.out w3 L3.out).mono ?_
  rintro e w4 ⟨rfl, hl⟩
  have L4 := Lib.hid hl
  clear hl
  go_wp2_with (fail)
  go_ret
  exact ⟨rfl, L4.out⟩
end
end Go.Proofs.YtbodiioemohenaaDoor

/- The contracts of the developers' slot, for the tenth layer's laws and for a layer above. No condition of its own. -/
namespace Go.Proofs.YtbodiioemohenaaDoor
open Go.RowKit

def PairIs (w : World) (pp dp : Value) (a k : Nat) (F : Nat → Prop) : Prop := ∃ X D, pp = .pointer (some ⟨X, 0, none⟩) ∧ dp = .pointer (some ⟨D, 0, none⟩) ∧ Blk w X 72 (prV dp a k) ∧ F = fun j => j = X
theorem int_wf {a : Int} (h : (Lit.int .i64 a).wf = true) : -9223372036854775808 ≤ a ∧ a ≤ 9223372036854775807 := by
  have h2 := h
  simp [Lit.wf, IntKind.min, IntKind.max, IntKind.signed, IntKind.bits] at h2
  omega
theorem both_at {w : World} {pp dp : Value} {a k : Nat} {S : DS} {F : Nat → Prop} (h : Both diskw PairIs w pp dp a k S F) (h1 : 1 ≤ k) (h2 : a + 2 * k ≤ 1024) : ∃ X D F1, pp = .pointer (some ⟨X, 0, none⟩) ∧ dp = .pointer (some ⟨D, 0, none⟩) ∧ SlAt diskw w X a k D S F1 ∧ (F = fun j => F1 j ∨ j = X) := by
  obtain ⟨F1, F2, h3, ⟨X, D, rfl, rfl, h4, rfl⟩, h5, rfl⟩ := h
  exact ⟨X, D, F1, rfl, rfl, ⟨h4, h3, fun j hj e => h5 j hj e, h1, h2⟩, rfl⟩
theorem left_both {w w' : World} {X a k D : Nat} {S' : DS} {F1 : Nat → Prop} (_hX : X < w.heap.size) (h : SlLeft diskw w w' X a k D S' F1) : BLeft diskw PairIs w w' (.pointer (some ⟨X, 0, none⟩)) (.pointer (some ⟨D, 0, none⟩)) a k S' (fun j => F1 j ∨ j = X) := by
  obtain ⟨⟨F', h1, h2⟩, h3⟩ := h
  refine ⟨⟨_, ⟨F', _, h1.dk, ⟨X, D, rfl, rfl, h1.pr, rfl⟩, fun j hj e => h1.ap j hj e, rfl⟩, fun j hj => ?_⟩, h3.mono fun j hj => .inl hj⟩
  rcases hj with hj | hj
  · exact (h2 j hj).imp .inl id
  · exact .inl (.inr hj)
noncomputable def slotc : SlotC diskw := {
  At := PairIs
  other := by
    rintro w w' pp dp a k F G ⟨X, D, rfl, rfl, h, rfl⟩ hc hd
    exact ⟨X, D, rfl, rfl, hc.blk h (hd X rfl), rfl⟩
  lt := by
    rintro w pp dp a k F ⟨X, D, rfl, rfl, h, rfl⟩ j rfl
    exact h.lt
  opn := by
    rintro w dp S F ⟨X, _, _, _, rfl, h, rfl⟩ a k _ _ h1 h2 h3
    obtain ⟨a, rfl⟩ := Int.eq_ofNat_of_zero_le h2
    obtain ⟨k, rfl⟩ := Int.eq_ofNat_of_zero_le (show 0 ≤ k by omega)
    refine (slOpen_any X a k w (by omega) (by omega)).mono ?_
    rintro e w' ⟨rfl, hb, hl⟩
    exact ⟨_, rfl, ⟨_, ⟨_, X, rfl, rfl, hb, rfl⟩, fun j hj => by rw [hj]; exact Nat.le_refl _⟩, hl⟩
  bad := by
    rintro w dp S F ⟨X, _, _, _, rfl, h, rfl⟩ a k ha _ h1
    refine (slOpen_bad X a k w (int_wf ha) h1).mono ?_
    rintro e w' ⟨rfl, rfl⟩
    exact ⟨rfl, Below.refl _ _⟩
  load := by
    intro w pp dp a k S F h hs h1 h2
    obtain ⟨X, D, F1, rfl, rfl, hA, rfl⟩ := both_at h h1 h2
    exact slLoad_any hA hs
  save := by
    intro w pp dp a k S F h hs hF h1 h2 u bs hr hu hb hd hm ho
    obtain ⟨X, D, F1, rfl, rfl, hA, rfl⟩ := both_at h h1 h2
    refine (slSaveX_any hA hs u bs hr (fun h0 j hj e => hu h0 j hj (.inl e)) hb hd hm (by omega)).mono ?_
    rintro e w' ⟨n, rfl, hn, hl⟩
    exact ⟨n, rfl, hn, left_both hA.pr.lt hl⟩
  wipe := by
    intro w pp dp a k S F h hs hF h1 h2 u bs hr hu hb hd hm ho he
    obtain ⟨X, D, F1, rfl, rfl, hA, rfl⟩ := both_at h h1 h2
    refine (slWipeX_any hA hs (fun j hj => hF j (.inl hj)) u bs hr (fun h0 j hj e => hu h0 j hj (.inl e)) hb hd hm (by omega) he).mono ?_
    rintro e w' ⟨n, rfl, hn, hl⟩
    exact ⟨n, rfl, hn, left_both hA.pr.lt hl⟩ }
theorem slotn : SlotN := {
  opn := fun a k w _ _ => (slOpen_nil a k w).mono fun _ _ ⟨h1, h2⟩ => ⟨h1, h2 ▸ Below.refl _ _⟩
  load := fun w => (slLoad_nil w).mono fun _ _ ⟨h1, h2⟩ => ⟨_, _, h1, h2 ▸ Below.refl _ _⟩
  save := fun u _ w _ => (slSave_nil u w).mono fun _ _ ⟨h1, h2⟩ => ⟨_, h1, h2 ▸ Below.refl _ _⟩
  wipe := fun u _ w _ => (slWipe_nil u w).mono fun _ _ ⟨h1, h2⟩ => ⟨_, h1, h2 ▸ Below.refl _ _⟩ }
end Go.Proofs.YtbodiioemohenaaDoor

/- The contracts of the developers' journal, for the eleventh layer's laws and for a layer above. No condition of its own. -/
namespace Go.Proofs.YtbodiioemohenaaDoor
open Go.RowKit

section
variable {DC : DiskW}
/-- A store, with its pair, on a disk: all blocks of both but the disk's. -/
def JourAt (SC : SlotC DC) (w : World) (sp dp : Value) (st : JS) (F : Nat → Prop) : Prop :=
  ∃ X D Y F2, sp = .pointer (some ⟨X, 0, none⟩) ∧ dp = .pointer (some ⟨D, 0, none⟩) ∧ Blk w X 51 (jsV dp (.pointer (some Y)) st) ∧ SC.At w (.pointer (some Y)) dp 0 256 F2 ∧ ¬ F2 X ∧ F = fun j => F2 j ∨ j = X
theorem both_jv {SC : SlotC DC} {w : World} {sp dp : Value} {st : JS} {S : DS} {F : Nat → Prop} (h : JBoth DC (JourAt SC) w sp dp st S F) : ∃ X D Y, sp = .pointer (some ⟨X, 0, none⟩) ∧ dp = .pointer (some ⟨D, 0, none⟩) ∧ JvAt DC SC w X D Y st S F := by
  obtain ⟨F1, _, h1, ⟨X, D, Y, F2, rfl, rfl, h2, h3, h4, rfl⟩, h5, rfl⟩ := h
  exact ⟨X, D, Y, rfl, rfl, F1, F2, ⟨h2, h1, fun j hj e => h5 j hj (.inr e)⟩, h3, h4, fun j hj e => h5 j hj (.inl e), rfl⟩
theorem jv_both {SC : SlotC DC} {w : World} {X D : Nat} {Y : Addr} {st : JS} {S : DS} {F : Nat → Prop} (h : JvAt DC SC w X D Y st S F) : JBoth DC (JourAt SC) w (.pointer (some ⟨X, 0, none⟩)) (.pointer (some ⟨D, 0, none⟩)) st S F := by
  obtain ⟨F1, F2, h1, h2, h3, h4, rfl⟩ := h
  refine ⟨F1, _, h1.dk, ⟨X, D, Y, F2, rfl, rfl, h1.pr, h2, h3, rfl⟩, fun j hj e => ?_, rfl⟩
  rcases e with e | e
  · exact h4 j hj e
  · exact h1.ap j hj e
theorem jv_left {SC : SlotC DC} {w w' : World} {X D : Nat} {Y : Addr} {st : JS} {S : DS} {F : Nat → Prop} (h : JvLeft DC SC w w' X D Y st S F) : JLeft DC (JourAt SC) w w' (.pointer (some ⟨X, 0, none⟩)) (.pointer (some ⟨D, 0, none⟩)) st S F := by
  obtain ⟨⟨F', h1, h2⟩, h3⟩ := h
  exact ⟨⟨F', jv_both h1, h2⟩, h3⟩
/-- The journal's contracts over those of a slot and of a disk that is told by a pointer. -/
noncomputable def journOf (SC : SlotC DC) (hD : ∀ {w : World} {dp : Value} {S : DS} {F : Nat → Prop}, DC.Is w dp S F → ∃ D, dp = .pointer (some ⟨D, 0, none⟩)) : JournC DC := {
  At := JourAt SC
  other := by
    rintro w w' sp dp st F G ⟨X, D, Y, F2, rfl, rfl, h1, h2, h3, rfl⟩ hc hd
    exact ⟨X, D, Y, F2, rfl, rfl, hc.blk h1 (hd X (.inr rfl)), SC.other h2 hc fun j hj => hd j (.inl hj), h3, rfl⟩
  lt := by
    rintro w sp dp st F ⟨X, D, Y, F2, rfl, rfl, h1, h2, h3, rfl⟩ j hj
    rcases hj with hj | hj
    · exact SC.lt h2 j hj
    · rw [hj]
      exact h1.lt
  opn := by
    intro w dp S F h
    obtain ⟨D, rfl⟩ := hD h
    refine (jOpen_any (SC := SC) h).mono ?_
    rintro e w' ⟨X, Y, G, rfl, h1, h2, h3, h4, h5, h6⟩
    refine ⟨⟨X, 0, none⟩, rfl, ⟨⟨false, 0, 0, 0⟩, _, rfl, ⟨X, D, Y, G, rfl, rfl, h1, h2, h4, rfl⟩, fun j hj => ?_⟩, h6⟩
    rcases hj with hj | hj
    · exact h3 j hj
    · rw [hj]
      exact h5
  recover := by
    intro w sp dp st S F h hs rs hr
    obtain ⟨X, D, Y, rfl, rfl, hv⟩ := both_jv h
    exact jRecover_any hv hs rs hr
  save := by
    intro w sp dp st S F h hs hF u bs hr hu hb hd hm ho
    obtain ⟨X, D, Y, rfl, rfl, hv⟩ := both_jv h
    refine (jSave_any hv hs hF u bs hr hu hb hd hm ho).mono ?_
    rintro e w' ⟨rfl, st', h1, h2⟩
    exact ⟨rfl, st', h1, jv_left h2⟩
  append := by
    intro w sp dp n nu p S F h u bs hr hu hb hp hnu hn hd ho
    obtain ⟨X, D, Y, rfl, rfl, hv⟩ := both_jv h
    refine (jAppend_any hv u bs hr hu hb hp hnu hn hd ho).mono ?_
    rintro e w' ⟨rfl, st', h1, h2⟩
    exact ⟨rfl, st', h1, jv_left h2⟩
  stale := by
    intro w sp dp st S F h hf u bs _
    obtain ⟨X, D, Y, rfl, rfl, hv⟩ := both_jv h
    refine (jStale_any hv hf u).mono ?_
    rintro e w' ⟨rfl, rfl⟩
    exact ⟨rfl, Below.refl _ _⟩
  scrub := by
    intro w sp dp st S F h hs hF u bs hr hu hb hd hm ho he
    obtain ⟨X, D, Y, rfl, rfl, hv⟩ := both_jv h
    refine (jScrub_any hv hs hF u bs hr hu hb hd hm ho he).mono ?_
    rintro e w' ⟨rfl, h2⟩
    exact ⟨rfl, jv_left h2⟩ }
end
noncomputable def journc : JournC diskw := journOf slotc (by
  rintro w dp S F ⟨X, _, _, _, rfl, _, rfl⟩
  exact ⟨X, rfl⟩)
theorem rawc : RawC diskw := {
  raw := by
    rintro w p S F ⟨X, _, _, _, rfl, h, rfl⟩
    exact dkRaw_any h }
end Go.Proofs.YtbodiioemohenaaDoor
