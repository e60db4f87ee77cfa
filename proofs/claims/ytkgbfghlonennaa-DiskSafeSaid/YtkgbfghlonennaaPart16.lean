/- Part 16 of the words that the laws share: DActs, DDo, DSame. No condition of its own: each theorem says its own. -/
import Derived.Test.YtkgbfghlonennaaPart15
import Derived.Test.YtkgbfghlonennaaPart4
import Derived.Deep.Cut
import Derived.Deep.RegionHeld3

/- Slices of acts, as they read; the ninth laws' great; the document's example over contracts of the developers' disk. Premises: the contracts. -/
namespace Go.Proofs.Ytkgbfghlonennaa
open Go.RowKit

def act0 : ActV := ⟨0, 0, []⟩
/-- The act's three cells. -/
def ActAt (w : World) (b o : Nat) (a : ActV) : Prop := ∃ u, w.cell? ⟨b, o, none⟩ = some (.int .i64 a.kind) ∧ w.cell? ⟨b, o + 1, none⟩ = some (.int .i64 a.plc) ∧ w.cell? ⟨b, o + 2, none⟩ = some u ∧ ActOk w a u
/-- The slice v reads as acts. -/
def Acts (w : World) (v : Value) (L : List ActV) : Prop :=
  (∃ A c, v = .slice A 0 c ∧ L = []) ∨ ∃ b off c, v = .slice (some ⟨b, off, none⟩) L.length c ∧ b < w.heap.size ∧ L.length ≤ maxLen ∧ ∀ i, i < L.length → ActAt w b (off + i * 3) (L.getD i act0)
theorem ActAt.below {w w' : World} {b o : Nat} {a : ActV} (h : ActAt w b o a) (hb : b < w.heap.size) (hc : Below w.heap.size w w') : ActAt w' b o a := by
  obtain ⟨u, h1, h2, h3, h4⟩ := h
  exact ⟨u, (hc.cell (p := ⟨b, o, none⟩) hb).trans h1, (hc.cell (p := ⟨b, o + 1, none⟩) hb).trans h2, (hc.cell (p := ⟨b, o + 2, none⟩) hb).trans h3, h4.below hc⟩
theorem Acts.below {w w' : World} {v : Value} {L : List ActV} (h : Acts w v L) (hc : Below w.heap.size w w') : Acts w' v L := by
  rcases h with h | ⟨b, off, c, h1, h2, h3, h4⟩
  · exact .inl h
  · exact .inr ⟨b, off, c, h1, Nat.lt_of_lt_of_le h2 hc.size, h3, fun i hi => (h4 i hi).below h2 hc⟩
theorem Acts.form {w : World} {v : Value} {L : List ActV} (h : Acts w v L) : ∃ A c, v = .slice A L.length c ∧ L.length ≤ maxLen ∧ (0 < L.length → ∃ b off, A = some ⟨b, off, none⟩ ∧ b < w.heap.size ∧ ∀ i, i < L.length → ActAt w b (off + i * 3) (L.getD i act0)) := by
  rcases h with ⟨A, c, rfl, rfl⟩ | ⟨b, off, c, rfl, h2, h3, h4⟩
  · exact ⟨A, c, rfl, Nat.zero_le _, fun h => absurd h (by simp)⟩
  · exact ⟨_, c, rfl, h3, fun _ => ⟨b, off, rfl, h2, h4⟩⟩
def GreatIs (L : List ActV) (w : World) (e : Ending) (w' : World) : Prop := ∃ b, e = .returned (.bool b) ∧ w' = w ∧ (b = false → ∀ i, i < L.length → i < 50 → (L.getD i act0).bs.length ≤ 300)
def GrtRel (L : List ActV) (w : World) (v : Value) (W : World) : Prop := ∃ i : Nat, v = .int .i64 (i : Int) ∧ i ≤ L.length ∧ i ≤ 50 ∧ (∀ q, q < i → (L.getD q act0).bs.length ≤ 300) ∧ W = w
set_option maxRecDepth 100000 in
set_option maxHeartbeats 2000000 in
theorem great_any (v : Value) (L : List ActV) (w : World) (h : Acts w v L) :
    Calls Try.prog 7 #[v] w (GreatIs L w) := by
  obtain ⟨A, c, rfl, hm, hA⟩ := h.form
  have HA := Lib.hid hA
  unfold maxLen at hm
  have nI : (L.length : Int) ≤ 9223372036854775807 := by omega
  clear hA h
  go_enter Try.func7, Try.ntmps7
  go_wp2_with (fail)
  go_loopw [3] (fun v wx => GrtRel L w v wx) (fun v _ => 50 - (intOf v).toNat)
  case atStart => exact ⟨0, rfl, Nat.zero_le _, Nat.zero_le _, fun q h => by omega, rfl⟩
  case round =>
    obtain ⟨i, rfl, hi, h50, hq, rfl⟩ := hrel
    have HQ := Lib.hid hq
    by_cases hlt : i < L.length
    · have hI : (i : Int) < L.length := by omega
      by_cases hl2 : i < 50
      · have hI2 : (i : Int) < 50 := by omega
        obtain ⟨b, off, rfl, _, hb3⟩ := HA.out (by omega)
        obtain ⟨u, _, _, cu, hok⟩ := hb3 i hlt
        obtain ⟨a, ha⟩ : ∃ a, a = L.getD i act0 := ⟨_, rfl⟩
        rw [← ha] at hok
        obtain ⟨Au, ku, rfl, hk1, hk2, _⟩ := hok.rd.form
        have HAA := Lib.hid ha
        have HLT := Lib.hid hlt
        have HL2 := Lib.hid hl2
        unfold maxLen at hk2
        have lI : (a.bs.length : Int) ≤ 9223372036854775807 := by omega
        by_cases hg : 300 < a.bs.length
        · have gI : (300 : Int) < a.bs.length := by omega
          clear hb3 hok ha hq hi h50 hlt hl2 hk1 hk2 hg
          go_wp2_with (fail)
          go_ret
          exact ⟨_, rfl, rfl, fun h => by cases h⟩
        · have gI : ¬ (300 : Int) < a.bs.length := by omega
          have HG := Lib.hid hg
          clear hb3 hok ha hq hi h50 hlt hl2 hk1 hk2 hg
          go_wp2_with (fail)
          have h1 := HLT.out
          have h2 := HL2.out
          refine ⟨⟨i + 1, by go_num, by omega, by omega, fun q hq => ?_, rfl⟩, by simp [intOf]; omega⟩
          by_cases e : q = i
          · rw [e, ← HAA.out]
            have := HG.out
            omega
          · exact HQ.out q (by omega)
      · have hI2 : ¬ (i : Int) < 50 := by omega
        have HL2 := Lib.hid hl2
        clear hq hi h50 hlt hl2
        go_wp2_with (fail)
        go_ret
        exact ⟨_, rfl, rfl, fun _ q _ hq => HQ.out q (by have := HL2.out; omega)⟩
    · have hI : ¬ (i : Int) < L.length := by omega
      have HLT := Lib.hid hlt
      clear hq hi h50 hlt
      go_wp2_with (fail)
      go_ret
      exact ⟨_, rfl, rfl, fun _ q hq _ => HQ.out q (by have := HLT.out; omega)⟩
def sA : DS := (writeS newS 3 [1]).1
def sB : DS := (syncS sA).1
def sC : DS := (writeS sB 3 [2]).1
def sD : DS := bootS sC [2]
theorem codes : (writeS newS 3 [1]).2 = 0 ∧ (syncS sA).2 = 0 ∧ (writeS sB 3 [2]).2 = 0 ∧ (readS sD 3).2 = 9 := by decide +kernel
theorem opsA : sA.ops < 1000000 ∧ sB.ops < 1000000 := by decide +kernel
theorem rd_lit (w : World) (x : UInt8) : Rd (w.alloc (.cells #[.int .u8 (x.toNat : Int)] 5)) (.slice (some ⟨w.heap.size, 0, none⟩) 1 1) [x] := rd_one rfl
theorem lit_apart {F : Nat → Prop} {n : Nat} (h : ∀ k, F k → k < n) (len c : Nat) : 0 < 1 → ∀ j, (Value.slice (some ⟨n, 0, none⟩) len c).ownBlock = some j → ¬ F j := fun _ j hj hf => by
  have e : n = j := by simpa [Value.ownBlock] using hj
  have := h j hf
  omega
set_option maxRecDepth 100000 in
set_option maxHeartbeats 2000000 in
theorem awakeD_any (DC : DiskC) (w : World) : Calls Try.prog 8 #[] w fun e w' => e = .returned (.bool true) ∧ Below w.heap.size w w' := by
  have HC := Lib.hid codes
  go_enter Try.func8, Try.ntmps8
  go_wp2_with (fail)
  refine (DC.new w).mono ?_
  rintro e w1 ⟨p, rfl, ⟨F1, h1, f1⟩, b1⟩
  obtain ⟨V1, hV1⟩ : ∃ W : World, W = w1.alloc (.cells #[.int .u8 1] 5) := ⟨_, rfl⟩
  have L1 : Below w1.heap.size w1 V1 := by rw [hV1]; exact (Below.refl _ _).alloc (Nat.le_refl _) _
  have r1 : Rd V1 (.slice (some ⟨w1.heap.size, 0, none⟩) 1 1) [1] := by rw [hV1]; exact rd_lit w1 1
  have D1 := Lib.hid (b1.trans (L1.mono b1.size))
  have H1 := Lib.hid (DC.other h1 (chg_none L1) fun _ _ h => h)
  have F1b := Lib.hid f1
  have K1 := Lib.hid (DC.lt h1)
  have R1 := Lib.hid r1
  clear h1 f1 b1 L1 r1
  go_wp2_with (fail)
  rw [← hV1]
  clear hV1
  refine (DC.write H1.out 3 _ [1] (by decide) R1.out (by decide) (by decide) (lit_apart K1.out 1 1)).mono ?_
  rintro e w2 ⟨rfl, ⟨⟨F2, h2, f2⟩, c2⟩⟩
  rw [HC.out.1]
  have D2 : Hid (Below w.heap.size w w2) := Lib.hid (D1.out.trans (c2.below F1b.out D1.out.size))
  have F2b : Hid (∀ k, F2 k → w.heap.size ≤ k) := Lib.hid fun k hk => (f2 k hk).elim (F1b.out k) fun h => Nat.le_trans D1.out.size h
  have H2 := Lib.hid h2
  clear h2 f2 c2 H1 K1 R1 D1 F1b
  go_wp2_with (fail)
  refine (DC.sync H2.out opsA.1).mono ?_
  rintro e w3 ⟨rfl, ⟨⟨F3, h3, f3⟩, c3⟩⟩
  rw [show (syncS (writeS newS 3 [1]).1).2 = 0 from HC.out.2.1]
  obtain ⟨V3, hV3⟩ : ∃ W : World, W = w3.alloc (.cells #[.int .u8 2] 5) := ⟨_, rfl⟩
  have L3 : Below w3.heap.size w3 V3 := by rw [hV3]; exact (Below.refl _ _).alloc (Nat.le_refl _) _
  have r3 : Rd V3 (.slice (some ⟨w3.heap.size, 0, none⟩) 1 1) [2] := by rw [hV3]; exact rd_lit w3 2
  have D3 : Hid (Below w.heap.size w V3) := Lib.hid (by
    have h := D2.out.trans (c3.below F2b.out D2.out.size)
    exact h.trans (L3.mono h.size))
  have F3b : Hid (∀ k, F3 k → w.heap.size ≤ k) := Lib.hid fun k hk => (f3 k hk).elim (F2b.out k) fun h => Nat.le_trans D2.out.size h
  have H3 := Lib.hid (DC.other h3 (chg_none L3) fun _ _ h => h)
  have K3 := Lib.hid (DC.lt h3)
  have R3 := Lib.hid r3
  clear h3 f3 c3 L3 r3 H2 D2 F2b
  go_wp2_with (fail)
  rw [← hV3]
  clear hV3
  refine (DC.write H3.out 3 _ [2] (by decide) R3.out (by decide) opsA.2 (lit_apart K3.out 1 1)).mono ?_
  rintro e w4 ⟨rfl, ⟨⟨F4, h4, f4⟩, c4⟩⟩
  rw [show (writeS (syncS (writeS newS 3 [1]).1).1 3 [2]).2 = 0 from HC.out.2.2.1]
  obtain ⟨V4, hV4⟩ : ∃ W : World, W = w4.alloc (.cells #[.int .u8 2] 5) := ⟨_, rfl⟩
  have L4 : Below w4.heap.size w4 V4 := by rw [hV4]; exact (Below.refl _ _).alloc (Nat.le_refl _) _
  have r4 : Rd V4 (.slice (some ⟨w4.heap.size, 0, none⟩) 1 1) [2] := by rw [hV4]; exact rd_lit w4 2
  have D4 : Hid (Below w.heap.size w V4) := Lib.hid (by
    have h := D3.out.trans (c4.below F3b.out D3.out.size)
    exact h.trans (L4.mono h.size))
  have F4b : Hid (∀ k, F4 k → w.heap.size ≤ k) := Lib.hid fun k hk => (f4 k hk).elim (F3b.out k) fun h => Nat.le_trans D3.out.size h
  have H4 := Lib.hid (DC.other h4 (chg_none L4) fun _ _ h => h)
  have K4 := Lib.hid (DC.lt h4)
  have R4 := Lib.hid r4
  clear h4 f4 c4 L4 r4 H3 D3 F3b K3 R3
  go_wp2_with (fail)
  rw [← hV4]
  clear hV4
  refine (DC.boot H4.out _ [2] R4.out (by decide) (lit_apart K4.out 1 1)).mono ?_
  rintro e w5 ⟨rfl, ⟨⟨F5, h5, f5⟩, c5⟩⟩
  have D5 : Hid (Below w.heap.size w w5) := Lib.hid (D4.out.trans (c5.below F4b.out D4.out.size))
  have H5 := Lib.hid h5
  clear h5 f5 c5 H4 D4 F4b K4 R4
  go_wp2_with (fail)
  refine (DC.read H5.out 3 (by decide)).mono ?_
  rintro e w6 ⟨u, rfl, _, _, b6⟩
  rw [show (readS (bootS (writeS (syncS (writeS newS 3 [1]).1).1 3 [2]).1 [2]) 3).2 = 9 from HC.out.2.2.2]
  have D6 := Lib.hid (D5.out.trans (b6.mono D5.out.size))
  clear b6
  go_wp2_with (fail)
  go_ret
  exact ⟨rfl, D6.out⟩
end Go.Proofs.Ytkgbfghlonennaa

/- The ninth laws' do, over contracts of the developers' disk: an act on both disks; where they are alike the answers are. Premises: the contracts; at most 300 bytes. -/
namespace Go.Proofs.Ytkgbfghlonennaa
open Go.RowKit

/-- What an act leaves of both disks. -/
def DoLeft (DC : DiskC) (w w' : World) (p : Value) (X : Nat) (S1 S2 : DS) (F G : Nat → Prop) : Prop :=
  ∃ F' G', DC.Is w' p S1 F' ∧ RefD w' X S2 G' ∧ (∀ k, F' k → ¬ G' k) ∧ (∀ k, F' k → F k ∨ w.heap.size ≤ k) ∧ (∀ k, G' k → G k ∨ w.heap.size ≤ k) ∧ Chg (fun k => F k ∨ G k) w w'
theorem RefD.lt {w : World} {X : Nat} {S : DS} {F : Nat → Prop} (h : RefD w X S F) : ∀ k, F k → k < w.heap.size := by
  obtain ⟨v, Q, h⟩ := h
  exact h.fl
/-- The reference's disk, and what its calls write to. -/
def RefO (w : World) (X : Nat) (S : DS) (F O : Nat → Prop) : Prop := ∃ v Q, RefIs w X S F v Q ∧ O = Wrt X v
theorem RefO.d {w : World} {X : Nat} {S : DS} {F O : Nat → Prop} (h : RefO w X S F O) : RefD w X S F := by
  obtain ⟨v, Q, h, _⟩ := h
  exact ⟨v, Q, h⟩
theorem RefO.other {w w' : World} {X : Nat} {S : DS} {F O G : Nat → Prop} (h : RefO w X S F O) (hc : Chg G w w') (hd : ∀ k, F k → ¬ G k) : RefO w' X S F O := by
  obtain ⟨v, Q, h, hO⟩ := h
  exact ⟨v, Q, h.other hc hd, hO⟩
theorem RefO.sub {w : World} {X : Nat} {S : DS} {F O : Nat → Prop} (h : RefO w X S F O) : ∀ k, O k → F k := fun k hk => by
  obtain ⟨v, Q, h, hO⟩ := h
  rw [hO] at hk
  exact h.own hk
/-- What an act leaves of both disks; the reference's writes to its own two blocks alone. -/
def DoLeftO (DC : DiskC) (w w' : World) (p : Value) (X : Nat) (S1 S2 : DS) (F G O : Nat → Prop) : Prop :=
  ∃ F' G' O', DC.Is w' p S1 F' ∧ RefO w' X S2 G' O' ∧ (∀ k, F' k → ¬ G' k) ∧ (∀ k, F' k → F k ∨ w.heap.size ≤ k) ∧ (∀ k, G' k → G k ∨ w.heap.size ≤ k) ∧ (∀ k, O' k → O k ∨ w.heap.size ≤ k) ∧ Chg (fun k => F k ∨ O k) w w'
theorem DoLeftO.left {DC : DiskC} {w w' : World} {p : Value} {X : Nat} {S1 S2 : DS} {F G O : Nat → Prop} (h : DoLeftO DC w w' p X S1 S2 F G O) (hO : ∀ k, O k → G k) : DoLeft DC w w' p X S1 S2 F G := by
  obtain ⟨F', G', O', h1, h2, h3, h4, h5, _, h7⟩ := h
  exact ⟨F', G', h1, h2.d, h3, h4, h5, h7.mono fun k hk => hk.imp id (hO k)⟩
/-- One behind the other. -/
theorem do_join {DC : DiskC} {w w1 w3 : World} {p : Value} {X : Nat} {S1 S2 : DS} {F F1 G G' O O' : Nat → Prop} (hOG : ∀ k, O k → G k) (hG : ∀ k, G k → k < w.heap.size) (hFG : ∀ k, F k → ¬ G k) (hd : DC.Is w1 p S1 F1) (hF1 : ∀ k, F1 k → F k ∨ w.heap.size ≤ k) (hc : Chg F w w1) (hx : RefO w3 X S2 G' O') (hG' : ∀ k, G' k → G k ∨ w1.heap.size ≤ k) (hO' : ∀ k, O' k → O k ∨ w1.heap.size ≤ k) (hc2 : Chg O w1 w3) : DoLeftO DC w w3 p X S1 S2 F G O := by
  have hd1 : ∀ k, F1 k → ¬ G k := fun k hk hg => by
    rcases hF1 k hk with h | h
    · exact hFG k h hg
    · have := hG k hg; omega
  refine ⟨F1, G', O', DC.other hd hc2 (fun k hk ho => hd1 k hk (hOG k ho)), hx, fun k hk hg => ?_, hF1, fun k hk => ?_, fun k hk => ?_, ?_⟩
  · rcases hG' k hg with h | h
    · exact hd1 k hk h
    · have := DC.lt hd k hk; omega
  · rcases hG' k hk with h | h
    · exact .inl h
    · exact .inr (Nat.le_trans hc.size h)
  · rcases hO' k hk with h | h
    · exact .inl h
    · exact .inr (Nat.le_trans hc.size h)
  · exact (hc.mono fun k h => .inl h).trans (hc2.mono fun k h => .inl (.inr h))
theorem boxed {w W : World} {k : Nat} (h : k < w.heap.size) (hc : Chg (fun _ => False) w W) : W.heap[k]? = w.heap[k]? := hc.keep k h fun h => h
theorem own_chg {F : Nat → Prop} {w w' : World} {base n : Nat} {t : TypeId} {v : Value} {xs : List Value} (h : w.ownsRow base t 1 v n xs) (hc : Chg F w w') (hF : ∀ k, v.ownBlock = some k → ¬ F k) : w'.ownsRow base t 1 v n xs := by
  rcases h with ⟨h1, h2 | ⟨g, cap, cur, rfl, hb, hg, h3⟩⟩
  · exact ⟨h1, .inl h2⟩
  · have hlt : g < w.heap.size := by
      rcases Nat.lt_or_ge g w.heap.size with h | h
      · exact h
      · rw [Array.getElem?_eq_none h] at hg; cases hg
    exact ⟨h1, .inr ⟨g, cap, cur, rfl, hb, (hc.keep g hlt (hF g rfl)).trans hg, h3⟩⟩
def InvRel (n : Nat) (A : Option Addr) (c base : Nat) (w : World) (v : Value) (W : World) : Prop := ∃ (i : Nat) (xs : List UInt8), v = .int .i64 (i : Int) ∧ i ≤ n ∧ xs.length = n ∧ W.ownsRow base 5 1 (.slice A n c) n (xs.map bv) ∧ Chg (fun k => (Value.slice A n c).ownBlock = some k) w W
theorem bx255 (y : UInt8) : bits .xor .u8 (y.toNat : Int) 255 = ((y ^^^ 255).toNat : Int) := by
  have h : ∀ n : Fin 256, bits .xor .u8 (n.val : Int) 255 = (((UInt8.ofNat n.val) ^^^ 255).toNat : Int) := by decide +kernel
  have h2 := h ⟨y.toNat, y.toNat_lt⟩
  simp only [UInt8.ofNat_toNat] at h2
  exact h2
set_option maxRecDepth 100000 in
set_option maxHeartbeats 4000000 in
theorem do_anyO (DC : DiskC) {w : World} {p : Value} {X : Nat} {S1 S2 : DS} {F G O : Nat → Prop} (hd : DC.Is w p S1 F) (hx : RefO w X S2 G O) (hFG : ∀ k, F k → ¬ G k) (a : ActV) (u : Value) (ha : ActOk w a u) (hbs : a.bs.length ≤ 300) (huF : 0 < a.bs.length → ∀ j, u.ownBlock = some j → ¬ F j ∧ ¬ G j) (ho1 : S1.ops < 1000000) (ho2 : S2.ops < 1000000) :
    Calls Try.prog 10 #[p, .pointer (some ⟨X, 0, none⟩), .agg #[.int .i64 a.kind, .int .i64 a.plc, u]] w fun e w' => ∃ b, e = .returned (.bool b) ∧ (S1 = S2 → b = true) ∧ ∃ m, DoLeftO DC w w' p X (stepS S1 m a).1 (stepS S2 m a).1 F G O := by
  obtain ⟨kd, pl, bs⟩ := a
  obtain ⟨W0, hW0⟩ : ∃ W : World, W = w.alloc (.cells #[.int .i64 kd, .int .i64 pl, u] 34) := ⟨_, rfl⟩
  have B0 : Hid (Blk W0 w.heap.size 34 [.int .i64 kd, .int .i64 pl, u]) := Lib.hid (by rw [hW0]; exact Blk.made w _ _)
  have L0 : Hid (Below w.heap.size w W0) := Lib.hid (by rw [hW0]; exact (Below.refl _ _).alloc (Nat.le_refl _) _)
  have HD : Hid (DC.Is W0 p S1 F) := Lib.hid (DC.other hd (chg_none L0.out) fun _ _ h => h)
  have HX : Hid (RefO W0 X S2 G O) := Lib.hid (hx.other (chg_none L0.out) fun _ _ h => h)
  have HFG := Lib.hid hFG
  have HA := Lib.hid (ha.below L0.out)
  have HBS := Lib.hid hbs
  have HUF := Lib.hid huF
  have HO1 := Lib.hid ho1
  have HO2 := Lib.hid ho2
  have HGL : Hid (∀ k, G k → k < w.heap.size) := Lib.hid hx.d.lt
  have HOG : Hid (∀ k, O k → G k) := Lib.hid hx.sub
  have HFL : Hid (∀ k, F k → k < w.heap.size) := Lib.hid (DC.lt hd)
  -- what is left in the world behind the box is left in the world ahead of it
  have HBACK : Hid (∀ (W : World) (T1 T2 : DS), DoLeftO DC W0 W p X T1 T2 F G O → DoLeftO DC w W p X T1 T2 F G O) := Lib.hid fun W T1 T2 ⟨F', G', O', h1, h2, h3, h4, h5, h5', h6⟩ =>
    ⟨F', G', O', h1, h2, h3, fun k hk => (h4 k hk).imp id fun h => Nat.le_trans L0.out.size h, fun k hk => (h5 k hk).imp id fun h => Nat.le_trans L0.out.size h, fun k hk => (h5' k hk).imp id fun h => Nat.le_trans L0.out.size h, chg_join (chg_below L0.out) h6⟩
  have c0 : W0.cell? ⟨w.heap.size, 0, none⟩ = some (.int .i64 kd) := by rw [B0.out.cell]; rfl
  clear hd hx hFG ha hbs huF ho1 ho2
  go_enter Try.func10, Try.ntmps10
  go_upto_region 1 with (fail)
  rw [← hW0]
  clear hW0
  go_wp2_with (fail)
  refine (pick_any kd 7 W0 HA.out.wk (by decide) (by decide)).mono ?_
  rintro e w1 ⟨⟨m, rfl, hm⟩, rfl⟩
  have mI : (m : Int) < 7 := by omega
  have c1 : W0.cell? ⟨w.heap.size, 1, none⟩ = some (.int .i64 pl) := by rw [B0.out.cell]; rfl
  have c2 : W0.cell? ⟨w.heap.size, 2, none⟩ = some u := by rw [B0.out.cell]; rfl
  by_cases h4 : m = 4
  · have e4 : ((m : Int) == 4) = true := by rw [h4]; rfl
    have HE : Hid (∀ S, stepS S m ⟨kd, pl, bs⟩ = syncS S) := Lib.hid fun S => by unfold stepS; rw [if_pos h4]
    clear h4 c0 c1 c2
    go_wp2_with (fail)
    refine (DC.sync HD.out HO1.out).mono ?_
    rintro e w2 ⟨rfl, ⟨⟨F1, hd1, hF1⟩, hc1⟩⟩
    obtain ⟨v, Q, hr, hO⟩ : RefO w2 X S2 G O := HX.out.other hc1 fun k hg hf => HFG.out k hf hg
    have HD1 := Lib.hid hd1
    have HF1 := Lib.hid hF1
    have HC1 := Lib.hid hc1
    clear hd1 hF1 hc1
    go_wp2_with (fail)
    refine (refSync_any hr HO2.out).mono ?_
    rintro e w3 ⟨rfl, ⟨Q', hr3⟩, hc3⟩
    have HL : Hid (DoLeftO DC w w3 p X (stepS S1 m ⟨kd, pl, bs⟩).1 (stepS S2 m ⟨kd, pl, bs⟩).1 F G O) := Lib.hid (by
      rw [HE.out, HE.out]
      exact HBACK.out _ _ _ (do_join HOG.out (fun k hk => Nat.lt_of_lt_of_le (HGL.out k hk) L0.out.size) HFG.out HD1.out HF1.out HC1.out ⟨v, Q', hr3, hO⟩ (fun k hk => .inl hk) (fun k hk => .inl hk) (by rw [hO]; exact hc3)))
    clear hr hr3 hc3
    go_wp2_with (fail)
    go_ret
    exact ⟨_, rfl, fun h => by rw [h]; simp, m, HL.out⟩
  have e4 : ((m : Int) == 4) = false := by rw [beq_eq_false_iff_ne]; omega
  by_cases h5 : m = 5
  · have e5 : ((m : Int) == 5) = true := by rw [h5]; rfl
    have HE : Hid (∀ S, stepS S m ⟨kd, pl, bs⟩ = fuseS S pl) := Lib.hid fun S => by unfold stepS; rw [if_neg h4, if_pos h5]
    have HWP := Lib.hid HA.out.wp
    clear h4 h5 c0 c2
    go_wp2_with (fail)
    refine (DC.fuse HD.out pl HWP.out).mono ?_
    rintro e w2 ⟨rfl, ⟨⟨F1, hd1, hF1⟩, hc1⟩⟩
    obtain ⟨v, Q, hr, hO⟩ : RefO w2 X S2 G O := HX.out.other hc1 fun k hg hf => HFG.out k hf hg
    have HD1 := Lib.hid hd1
    have HF1 := Lib.hid hF1
    have HC1 := Lib.hid hc1
    have HR := Lib.hid hr
    have B2 : Hid (Blk w2 w.heap.size 34 [.int .i64 kd, .int .i64 pl, u]) := Lib.hid (hc1.blk B0.out fun hf => by have := HFL.out _ hf; omega)
    clear hd1 hF1 hc1 c1
    obtain ⟨dd, hdd⟩ : ∃ dd, dd = S2.dead := ⟨_, rfl⟩
    obtain ⟨q, hq⟩ : ∃ q, q = (fuseS S1 pl).2 := ⟨_, rfl⟩
    have HQ := Lib.hid hq
    have cd : w2.cell? ⟨X, 2, none⟩ = some (.bool dd) := by rw [hr.blk.cell, hdd]; rfl
    rw [← hq]
    clear hq
    cases dd with
    | true =>
      have HS : Hid (fuseS S2 pl = (S2, 10)) := Lib.hid (by unfold fuseS; rw [if_pos hdd.symm])
      have HL : Hid (DoLeftO DC w w2 p X (stepS S1 m ⟨kd, pl, bs⟩).1 (stepS S2 m ⟨kd, pl, bs⟩).1 F G O) := Lib.hid (by
        rw [HE.out, HE.out, HS.out]
        exact HBACK.out _ _ _ (do_join HOG.out (fun k hk => Nat.lt_of_lt_of_le (HGL.out k hk) L0.out.size) HFG.out HD1.out HF1.out HC1.out ⟨v, Q, HR.out, hO⟩ (fun k hk => .inl hk) (fun k hk => .inl hk) (Chg.refl _ _)))
      clear hr hdd
      go_wp2_with (fail)
      go_ret
      exact ⟨_, rfl, fun h => by rw [HQ.out, h, HS.out]; rfl, m, HL.out⟩
    | false =>
      have HS : Hid (fuseS S2 pl = ({ S2 with fuse := pl.toNat }, 0)) := Lib.hid (by unfold fuseS; rw [if_neg (by rw [← hdd]; decide)])
      have f1 := hr.blk.free 1
      have c1 : w2.cell? ⟨w.heap.size, 1, none⟩ = some (.int .i64 pl) := by rw [B2.out.cell]; rfl
      have cf : ∃ y, w2.cell? ⟨X, 1, none⟩ = some y := ⟨_, by rw [hr.blk.cell]; rfl⟩
      obtain ⟨y, cf⟩ := cf
      have HB1 : Hid (∀ z : Int, z = (pl.toNat : Int) → DoLeftO DC w (w2.setCell ⟨X, 1, none⟩ (.int .i64 z)) p X (stepS S1 m ⟨kd, pl, bs⟩).1 (stepS S2 m ⟨kd, pl, bs⟩).1 F G O) := Lib.hid fun z hz => by
        have hw := bounds_i64 HWP.out
        have hb := HR.out.blk.set 1 (.int .i64 z)
        have hr2 := HR.out.head (Sole.setCell w2 X 1 (.int .i64 z)) { S2 with fuse := pl.toNat } rfl (by rw [hz] at hb ⊢; exact hb) (by show ((pl.toNat : Nat) : Int) ≤ _; omega) HR.out.os
        rw [HE.out, HE.out, HS.out]
        exact HBACK.out _ _ _ (do_join HOG.out (fun k hk => Nat.lt_of_lt_of_le (HGL.out k hk) L0.out.size) HFG.out HD1.out HF1.out HC1.out ⟨v, Q, hr2, hO⟩ (fun k hk => .inl hk) (fun k hk => .inl hk) (by rw [hO]; exact sole_chg (Sole.setCell w2 X 1 (.int .i64 z)) (.inl rfl)))
      clear hr hdd
      by_cases hp : pl < 0
      · have hmx : max pl 0 = 0 := by omega
        go_wp2_with (fail)
        go_ret
        exact ⟨_, rfl, fun h => by rw [HQ.out, h, HS.out]; rfl, m, HB1.out _ (by omega)⟩
      · have hmx : max pl 0 = pl := by omega
        go_wp2_with (fail)
        go_ret
        exact ⟨_, rfl, fun h => by rw [HQ.out, h, HS.out]; rfl, m, HB1.out _ (by omega)⟩
  have e5 : ((m : Int) == 5) = false := by rw [beq_eq_false_iff_ne]; omega
  by_cases h6 : m = 6
  · have e6 : ((m : Int) == 6) = true := by rw [h6]; rfl
    have HE : Hid (∀ S, stepS S m ⟨kd, pl, bs⟩ = (bootS S bs, 0)) := Lib.hid fun S => by unfold stepS; rw [if_neg h4, if_neg h5, if_pos h6]
    clear h4 h5 h6 c0 c1
    go_wp2_with (fail)
    refine (DC.boot HD.out u bs HA.out.rd (Nat.le_trans HBS.out (by decide)) (fun h j hj => (HUF.out h j hj).1)).mono ?_
    rintro e w2 ⟨rfl, ⟨⟨F1, hd1, hF1⟩, hc1⟩⟩
    obtain ⟨v, Q, hr, hO⟩ : RefO w2 X S2 G O := HX.out.other hc1 fun k hg hf => HFG.out k hf hg
    have HD1 := Lib.hid hd1
    have HF1 := Lib.hid hF1
    have HC1 := Lib.hid hc1
    have B2 : Hid (Blk w2 w.heap.size 34 [.int .i64 kd, .int .i64 pl, u]) := Lib.hid (hc1.blk B0.out fun hf => by have := HFL.out _ hf; omega)
    have HRD : Hid (Rd w2 u bs) := Lib.hid (chg_rd0 hc1 HA.out.rd fun h j hj => (HUF.out h j hj).1)
    have HUB : Hid (0 < bs.length → ∀ j, u.ownBlock = some j → j < w2.heap.size ∧ ¬ G j) := Lib.hid fun h j hj => ⟨by
        rcases HRD.out with ⟨_, _, _, _, _, h4⟩ | ⟨b, off, c, e1, h2, _⟩
        · rw [h4] at h; simp at h
        · rw [e1] at hj
          have : b = j := by simpa [Value.ownBlock] using hj
          omega, (HUF.out h j hj).2⟩
    clear hd1 hF1 hc1 c2
    have c2 : w2.cell? ⟨w.heap.size, 2, none⟩ = some u := by rw [B2.out.cell]; rfl
    go_wp2_with (fail)
    refine (refBoot_any hr HRD.out (Nat.le_trans HBS.out (by decide)) HUB.out).mono ?_
    rintro e w3 ⟨rfl, ⟨⟨G', v', Q', hr3, hG', hv'⟩, hc3⟩⟩
    have HL : Hid (DoLeftO DC w w3 p X (stepS S1 m ⟨kd, pl, bs⟩).1 (stepS S2 m ⟨kd, pl, bs⟩).1 F G O) := Lib.hid (by
      rw [HE.out, HE.out]
      exact HBACK.out _ _ _ (do_join HOG.out (fun k hk => Nat.lt_of_lt_of_le (HGL.out k hk) L0.out.size) HFG.out HD1.out HF1.out HC1.out ⟨v', Q', hr3, rfl⟩ hG' (fun k hk => by rw [hO]; exact hk.elim (fun e => .inl (.inl e)) fun e => (hv' k e).imp .inr id) (by rw [hO]; exact hc3)))
    clear hr hr3 hc3 hG'
    go_wp2_with (fail)
    go_ret
    exact ⟨_, rfl, fun _ => rfl, m, HL.out⟩
  have e6 : ((m : Int) == 6) = false := by rw [beq_eq_false_iff_ne]; omega
  have HE : Hid (∀ S, stepS S m ⟨kd, pl, bs⟩ = writeS S pl bs) := Lib.hid fun S => by unfold stepS; rw [if_neg h4, if_neg h5, if_neg h6]
  obtain ⟨i0, hi0, hz0, hz1, hz2⟩ := info_parts info_u8
  have HRU : Hid (Rd W0 u bs) := Lib.hid HA.out.rd
  have HWP : Hid ((Lit.int .i64 pl).wf = true) := Lib.hid HA.out.wp
  have H3 : Hid (bs.length ≤ 300) := Lib.hid HBS.out
  obtain ⟨W1, hW1⟩ : ∃ W : World, W = W0.alloc (.cells #[] 5) := ⟨_, rfl⟩
  have L1 : Hid (Below W0.heap.size W0 W1) := Lib.hid (by rw [hW1]; exact (Below.refl _ _).alloc (Nat.le_refl _) _)
  have O1 : Hid (W1.ownsRow W0.heap.size 5 1 (.slice (some ⟨W0.heap.size, 0, none⟩) 0 0) 0 []) := Lib.hid (by rw [hW1]; exact World.ownsRow_lit W0 #[] 0 (Nat.le_refl _) (Nat.zero_le _) rfl)
  have B1 : Hid (Blk W1 w.heap.size 34 [.int .i64 kd, .int .i64 pl, u]) := Lib.hid (B0.out.below L1.out B0.out.lt)
  have R1 : Hid (Rd W1 u bs) := Lib.hid (HRU.out.below L1.out)
  have Q1 : Hid (0 + bs.length ≤ 140737488355328) := Lib.hid (by have := H3.out; omega)
  clear h4 h5 h6 c0 c1 c2
  have c2 : (W0.alloc (.cells #[] 5)).cell? ⟨w.heap.size, 2, none⟩ = some u := by rw [← hW1, B1.out.cell]; rfl
  go_upto_region 15 with (first
    | (at_builtin
       rw [← hW1]
       refine wpList_append_rd W1 rfl _ _ _ rfl W0.heap.size 5 i0 _ Try.underlying32 hi0 hz0 hz1 hz2 rfl _ 0 [] rfl O1.out u bs rfl R1.out Q1.out L1.out.size ?_
       intro v2 w2 own2 gr2
       obtain ⟨A2, k2, hv2⟩ := own_shape own2
       subst hv2))
  have L2 : Hid (Below W0.heap.size W0 w2) := Lib.hid (L1.out.grown gr2 L1.out.size (fun k hk => own_ge O1.out k hk))
  have O2 : Hid (w2.ownsRow W0.heap.size 5 1 (.slice A2 bs.length k2) bs.length (bs.map bv)) := Lib.hid (by simpa using own2)
  have B2 : Hid (Blk w2 w.heap.size 34 [.int .i64 kd, .int .i64 pl, u]) := Lib.hid (B0.out.below L2.out B0.out.lt)
  have D2 : Hid (DC.Is w2 p S1 F) := Lib.hid (DC.other HD.out (chg_none L2.out) fun _ _ h => h)
  have HOF : Hid (∀ k, (Value.slice A2 bs.length k2).ownBlock = some k → W0.heap.size ≤ k ∧ k < w2.heap.size) := Lib.hid fun k hk => O2.out.lt k hk
  have HSZ : Hid (w.heap.size ≤ W0.heap.size) := Lib.hid L0.out.size
  have RI2 : Hid (Rd w2 (.slice A2 bs.length k2) bs) := Lib.hid (Rd.of_own O2.out)
  have c1 : w2.cell? ⟨w.heap.size, 1, none⟩ = some (.int .i64 pl) := by rw [B2.out.cell]; rfl
  have nI : (bs.length : Int) ≤ 300 := by have := H3.out; omega
  clear own2 gr2 hW1 c2 L1 O1 B1 R1 Q1
  go_wp2_with (fail)
  refine (DC.write D2.out pl _ bs HWP.out RI2.out (Nat.le_trans H3.out (by decide)) HO1.out (fun _ j hj hf => by have h1 := (HOF.out j hj).1; have h2 := HFL.out j hf; have := HSZ.out; omega)).mono ?_
  rintro e w3 ⟨rfl, ⟨⟨F1, hd1, hF1⟩, hc1⟩⟩
  have HD1 := Lib.hid hd1
  have HF1 := Lib.hid hF1
  have HC1 := Lib.hid hc1
  have O3 : Hid (w3.ownsRow W0.heap.size 5 1 (.slice A2 bs.length k2) bs.length (bs.map bv)) := Lib.hid (own_chg O2.out hc1 fun k hk hf => by have h1 := (HOF.out k hk).1; have h2 := HFL.out k hf; have := HSZ.out; omega)
  obtain ⟨q, hq⟩ : ∃ q, q = (writeS S1 pl bs).2 := ⟨_, rfl⟩
  have HQ := Lib.hid hq
  rw [← hq]
  clear hd1 hF1 hc1 c1 hq
  go_wp2_with (fail)
  go_loopw [10] (fun sv wx => InvRel bs.length A2 k2 W0.heap.size w3 sv wx) (fun sv _ => bs.length - (intOf sv).toNat)
  case atStart => exact ⟨0, bs, rfl, Nat.zero_le _, rfl, O3.out, Chg.refl _ _⟩
  case round =>
    obtain ⟨i, xs, rfl, hi, hxl, hown, hch⟩ := hrel
    have HCH := Lib.hid hch
    by_cases hlt : i < bs.length
    · have hI : (i : Int) < bs.length := by omega
      obtain ⟨g, c', he, _, _⟩ := own_form hown (by omega)
      simp only [Value.slice.injEq] at he
      obtain ⟨rfl, -, -⟩ := he
      obtain ⟨y, hy⟩ : ∃ y, y = xs[i]'(by omega) := ⟨_, rfl⟩
      have cy : wr.cell? ⟨g, i, none⟩ = some (.int .u8 (y.toNat : Int)) := by
        rw [hown.cellAt i (by omega), List.getElem?_map, List.getElem?_eq_getElem (by omega), hy]
        rfl
      have f1 : wr.frozen? ⟨g, i, none⟩ = false := hown.frozenAt i
      have x1 := bx255 y
      have HO2' : Hid ((wr.setCell ⟨g, i, none⟩ (.int .u8 ((y ^^^ 255).toNat : Int))).ownsRow W0.heap.size 5 1 (.slice (some ⟨g, 0, none⟩) bs.length k2) bs.length ((xs.set i (y ^^^ 255)).map bv)) := Lib.hid (by
        have h := (hown.stored i (bv (y ^^^ 255))).1
        rw [← List.map_set] at h
        exact h)
      have HC2' : Hid (Chg (fun k => (Value.slice (some ⟨g, 0, none⟩) bs.length k2).ownBlock = some k) w3 (wr.setCell ⟨g, i, none⟩ (.int .u8 ((y ^^^ 255).toNat : Int)))) := Lib.hid (chg_join HCH.out (Chg.setCell _ _ _ _ _ rfl))
      have HXL : Hid ((xs.set i (y ^^^ 255)).length = bs.length) := Lib.hid (by rw [List.length_set]; exact hxl)
      have HLT := Lib.hid hlt
      clear hy hown hch hi hlt hxl
      go_wp2_with (fail)
      have hlt := HLT.out
      refine ⟨⟨i + 1, _, by go_num, by omega, HXL.out, HO2'.out, HC2'.out⟩, by simp [intOf]; omega⟩
    · have hI : ¬ (i : Int) < bs.length := by omega
      have HC13 : Hid (Chg F W0 w3) := Lib.hid ((chg_below L2.out).trans (HC1.out.mono fun k h => .inl h))
      have HC14 : Hid (Chg F W0 wr) := Lib.hid (HC13.out.trans (HCH.out.mono fun k hk => .inr (HOF.out k hk).1))
      have HD4 : Hid (DC.Is wr p (writeS S1 pl bs).1 F1) := Lib.hid (DC.other HD1.out HCH.out fun k hk hh => by
        have h1 := HOF.out k hh
        rcases HF1.out k hk with h | h
        · have h2 := HFL.out k h; have := HSZ.out; omega
        · omega)
      obtain ⟨v, Q, hr, hO⟩ : RefO wr X S2 G O := HX.out.other HC14.out fun k hg hf => HFG.out k hf hg
      have B4 : Hid (Blk wr w.heap.size 34 [.int .i64 kd, .int .i64 pl, u]) := Lib.hid (HC14.out.blk B0.out fun hf => by have := HFL.out _ hf; omega)
      have R4 : Hid (Rd wr u bs) := Lib.hid (chg_rd0 HC14.out HRU.out fun h j hj => (HUF.out h j hj).1)
      have HUB : Hid (0 < bs.length → ∀ j, u.ownBlock = some j → j < wr.heap.size ∧ ¬ G j) := Lib.hid fun h j hj => ⟨by
        rcases R4.out with ⟨_, _, _, _, _, h4⟩ | ⟨b, off, c, e1, h2, _⟩
        · rw [h4] at h; simp at h
        · rw [e1] at hj
          have : b = j := by simpa [Value.ownBlock] using hj
          omega, (HUF.out h j hj).2⟩
      have c1 : wr.cell? ⟨w.heap.size, 1, none⟩ = some (.int .i64 pl) := by rw [B4.out.cell]; rfl
      have c2 : wr.cell? ⟨w.heap.size, 2, none⟩ = some u := by rw [B4.out.cell]; rfl
      have HR := Lib.hid hr
      clear hown hch hi hlt hxl hr
      go_wp2_with (fail)
      refine (refWrite_any HR.out pl R4.out (Nat.le_trans H3.out (by decide)) HO2.out HUB.out).mono ?_
      rintro e w5 ⟨rfl, ⟨⟨G', v', Q', hr5, hG', hv'⟩, hc5⟩⟩
      have HL : Hid (DoLeftO DC w w5 p X (stepS S1 m ⟨kd, pl, bs⟩).1 (stepS S2 m ⟨kd, pl, bs⟩).1 F G O) := Lib.hid (by
        rw [HE.out, HE.out]
        exact HBACK.out _ _ _ (do_join HOG.out (fun k hk => Nat.lt_of_lt_of_le (HGL.out k hk) L0.out.size) HFG.out HD4.out (fun k hk => (HF1.out k hk).imp id fun h => Nat.le_trans L2.out.size h) HC14.out ⟨v', Q', hr5, rfl⟩ hG' (fun k hk => by rw [hO]; exact hk.elim (fun e => .inl (.inl e)) fun e => (hv' k e).imp .inr id) (by rw [hO]; exact hc5)))
      clear c1 c2 hr5 hG' hc5
      go_wp2_with (fail)
      go_ret
      exact ⟨_, rfl, fun h => by rw [HQ.out, h]; simp, m, HL.out⟩
theorem do_any (DC : DiskC) {w : World} {p : Value} {X : Nat} {S1 S2 : DS} {F G : Nat → Prop} (hd : DC.Is w p S1 F) (hx : RefD w X S2 G) (hFG : ∀ k, F k → ¬ G k) (a : ActV) (u : Value) (ha : ActOk w a u) (hbs : a.bs.length ≤ 300) (huF : 0 < a.bs.length → ∀ j, u.ownBlock = some j → ¬ F j ∧ ¬ G j) (ho1 : S1.ops < 1000000) (ho2 : S2.ops < 1000000) :
    Calls Try.prog 10 #[p, .pointer (some ⟨X, 0, none⟩), .agg #[.int .i64 a.kind, .int .i64 a.plc, u]] w fun e w' => ∃ b, e = .returned (.bool b) ∧ (S1 = S2 → b = true) ∧ ∃ m, DoLeft DC w w' p X (stepS S1 m a).1 (stepS S2 m a).1 F G := by
  obtain ⟨v, Q, hr⟩ := hx
  refine (do_anyO DC hd ⟨v, Q, hr, rfl⟩ hFG a u ha hbs huF ho1 ho2).mono ?_
  rintro e w' ⟨b, he, hb, m, hl⟩
  exact ⟨b, he, hb, m, hl.left fun k hk => hr.own hk⟩
end Go.Proofs.Ytkgbfghlonennaa

/- The ninth laws' same, over contracts of the developers' disk: true of a disk and the reference's that are alike. Premises: the contracts. -/
namespace Go.Proofs.Ytkgbfghlonennaa
open Go.RowKit

/-- Both disks, what was read. -/
def SameS (DC : DiskC) (w : World) (p : Value) (X : Nat) (S : DS) (F G : Nat → Prop) (u : Value) (bs : List UInt8) (V : World) : Prop := DC.Is V p S F ∧ RefD V X S G ∧ Rd V u bs ∧ Below w.heap.size w V
theorem SameS.on {DC : DiskC} {w : World} {p : Value} {X : Nat} {S : DS} {F G : Nat → Prop} {u : Value} {bs : List UInt8} {V V' : World} (h : SameS DC w p X S F G u bs V) (hb : Below V.heap.size V V') : SameS DC w p X S F G u bs V' :=
  ⟨DC.other h.1 (chg_none hb) fun _ _ h => h, h.2.1.other (chg_none hb) fun _ _ h => h, h.2.2.1.below hb, h.2.2.2.trans (hb.mono h.2.2.2.size)⟩
set_option maxRecDepth 100000 in
set_option maxHeartbeats 4000000 in
theorem sameD_any (DC : DiskC) {w : World} {p : Value} {X : Nat} {S : DS} {F G : Nat → Prop} (hd : DC.Is w p S F) (hx : RefD w X S G) (k : Int) (hk : (Lit.int .i64 k).wf = true) :
    Calls Try.prog 11 #[p, .pointer (some ⟨X, 0, none⟩), .int .i64 k] w fun e w' => e = .returned (.bool true) ∧ Below w.heap.size w w' := by
  obtain ⟨bs, hbs⟩ : ∃ bs, bs = (readS S k).1 := ⟨_, rfl⟩
  obtain ⟨f, hf⟩ : ∃ f, f = (readS S k).2 := ⟨_, rfl⟩
  have HR := Lib.hid (DC.read hd k hk)
  rw [← hbs, ← hf] at HR
  have HBS := Lib.hid hbs
  have HF := Lib.hid hf
  have HD := Lib.hid hd
  have HX := Lib.hid hx
  obtain ⟨dd, hdd⟩ : ∃ dd, dd = S.dead := ⟨_, rfl⟩
  obtain ⟨n, hn⟩ : ∃ n, n = S.ops := ⟨_, rfl⟩
  have HDD := Lib.hid hdd
  have HN := Lib.hid hn
  clear hbs hf hd hx hk hdd hn
  go_enter Try.func11, Try.ntmps11
  go_wp2_with (fail)
  refine HR.out.mono ?_
  rintro e w1 ⟨u, rfl, hu, _, hb1⟩
  have hcell : ∀ V, SameS DC w p X S F G u bs V → V.cell? ⟨X, 2, none⟩ = some (.bool dd) ∧ V.cell? ⟨X, 3, none⟩ = some (.int .i64 (n : Int)) := fun V hV => by
    obtain ⟨v, Q, hr⟩ := hV.2.1
    rw [hr.blk.cell, hr.blk.cell, HDD.out, HN.out]
    exact ⟨rfl, rfl⟩
  have HALL : Hid (∀ V, SameS DC w p X S F G u bs V → V.cell? ⟨X, 2, none⟩ = some (.bool dd) ∧ V.cell? ⟨X, 3, none⟩ = some (.int .i64 (n : Int)) ∧ SameS DC w p X S F G u bs V) := Lib.hid fun V hV => ⟨(hcell V hV).1, (hcell V hV).2, hV⟩
  have hS0 : SameS DC w p X S F G u bs w1 := ⟨DC.other HD.out (chg_none hb1) fun _ _ h => h, HX.out.other (chg_none hb1) fun _ _ h => h, hu, hb1⟩
  have hS := HALL.out w1 hS0
  have SD : ∀ {V : World}, (V.cell? ⟨X, 2, none⟩ = some (.bool dd) ∧ V.cell? ⟨X, 3, none⟩ = some (.int .i64 (n : Int)) ∧ SameS DC w p X S F G u bs V) → (V.drew.cell? ⟨X, 2, none⟩ = some (.bool dd) ∧ V.drew.cell? ⟨X, 3, none⟩ = some (.int .i64 (n : Int)) ∧ SameS DC w p X S F G u bs V.drew) := fun h => ⟨h.1, h.2.1, h.2.2.on (below_drewN (Below.refl _ _) 1)⟩
  have C1 : Hid (∀ V, (V.cell? ⟨X, 2, none⟩ = some (.bool dd) ∧ V.cell? ⟨X, 3, none⟩ = some (.int .i64 (n : Int)) ∧ SameS DC w p X S F G u bs V) → Calls Try.prog 28 #[u, .int .i64 (f : Int), .pointer (some ⟨X, 0, none⟩), .int .i64 k] V fun e V' => e = .returned (.bool true) ∧ (V'.cell? ⟨X, 2, none⟩ = some (.bool dd) ∧ V'.cell? ⟨X, 3, none⟩ = some (.int .i64 (n : Int)) ∧ SameS DC w p X S F G u bs V')) := Lib.hid fun V hV => by
    obtain ⟨v, Q, hr⟩ := hV.2.2.2.1
    refine (refSameAt_any hr k hV.2.2.2.2.1 (f : Int)).mono ?_
    rintro e V' ⟨rfl, hb⟩
    rw [decide_eq_true ⟨HBS.out, by rw [HF.out]⟩]
    exact ⟨rfl, HALL.out V' (hV.2.2.on hb)⟩
  have C2 : Hid (∀ V, (V.cell? ⟨X, 2, none⟩ = some (.bool dd) ∧ V.cell? ⟨X, 3, none⟩ = some (.int .i64 (n : Int)) ∧ SameS DC w p X S F G u bs V) → Calls Try.prog 22 #[p] V fun e V' => e = .returned (.bool dd) ∧ (V'.cell? ⟨X, 2, none⟩ = some (.bool dd) ∧ V'.cell? ⟨X, 3, none⟩ = some (.int .i64 (n : Int)) ∧ SameS DC w p X S F G u bs V')) := Lib.hid fun V hV => by
    refine (DC.dead hV.2.2.1).mono ?_
    rintro e V' ⟨rfl, hb⟩
    exact ⟨by rw [HDD.out], HALL.out V' (hV.2.2.on hb)⟩
  have C3 : Hid (∀ V, (V.cell? ⟨X, 2, none⟩ = some (.bool dd) ∧ V.cell? ⟨X, 3, none⟩ = some (.int .i64 (n : Int)) ∧ SameS DC w p X S F G u bs V) → Calls Try.prog 23 #[p] V fun e V' => e = .returned (.int .i64 (n : Int)) ∧ (V'.cell? ⟨X, 2, none⟩ = some (.bool dd) ∧ V'.cell? ⟨X, 3, none⟩ = some (.int .i64 (n : Int)) ∧ SameS DC w p X S F G u bs V')) := Lib.hid fun V hV => by
    refine (DC.ops hV.2.2.1).mono ?_
    rintro e V' ⟨rfl, hb⟩
    exact ⟨by rw [HN.out], HALL.out V' (hV.2.2.on hb)⟩
  clear hcell hS0 hu hb1
  go_wp2_with (fail)
  go_region_held3 (fun V => V.cell? ⟨X, 2, none⟩ = some (.bool dd) ∧ V.cell? ⟨X, 3, none⟩ = some (.int .i64 (n : Int)) ∧ SameS DC w p X S F G u bs V) (first | assumption | exact SD (by assumption))
    (first
      | (go_at_call 28; refine (C1.out _ ?_).mono ?_; (first | assumption | exact SD (by assumption)); rintro e v1 ⟨rfl, s1⟩)
      | (go_at_call 22; refine (C2.out _ ?_).mono ?_; (first | assumption | exact SD (by assumption)); rintro e v1 ⟨rfl, s1⟩)
      | (go_at_call 23; refine (C3.out _ ?_).mono ?_; (first | assumption | exact SD (by assumption)); rintro e v1 ⟨rfl, s1⟩))
  all_goals
    have HB := Lib.hid s1.2.2.2.2.2
    go_wp2_with (fail)
    go_ret
    exact ⟨rfl, HB.out⟩
end Go.Proofs.Ytkgbfghlonennaa
