/- Part 14 of the words that the laws share: DRefJ, DRefK. No condition of its own: each theorem says its own. -/
import Derived.Test.YtkgbfghlonennaaPart13
import Derived.Test.YtkgbfghlonennaaPart1

/- The ninth reference's Write: contract, for every place and all bytes. Conditions: the disk is as a disk is; fewer than a million changes; the bytes lie in no block of the disk's. -/
namespace Go.Proofs.Ytkgbfghlonennaa
open Go.RowKit

/-- What a call leaves: the answer; the disk, of blocks that were its or are new; nothing else is changed. -/
structure Left (w w' : World) (X : Nat) (v : Value) (S : DS) (F : Nat → Prop) : Prop where
  disk : ∃ F' v' Q, RefIs w' X S F' v' Q ∧ (∀ j, F' j → F j ∨ w.heap.size ≤ j) ∧ ∀ j, v'.ownBlock = some j → v.ownBlock = some j ∨ w.heap.size ≤ j
  chg : Chg (Wrt X v) w w'
theorem Left.same {w : World} {X : Nat} {S : DS} {F : Nat → Prop} {v : Value} {Q : List PV} (h : RefIs w X S F v Q) : Left w w X v S F := ⟨⟨F, v, Q, h, fun _ => .inl, fun _ => .inl⟩, Chg.refl _ _⟩
set_option maxRecDepth 100000 in
set_option maxHeartbeats 1000000 in
theorem refWrite_any {w : World} {X : Nat} {S : DS} {F : Nat → Prop} {v : Value} {Q : List PV} (h : RefIs w X S F v Q) (k : Int) {u : Value} {bs : List UInt8} (hr : Rd w u bs) (hn : bs.length ≤ 1000) (ho : S.ops < 1000000) (hb : 0 < bs.length → ∀ j, u.ownBlock = some j → j < w.heap.size ∧ ¬ F j) :
    Calls Try.prog 27 #[.pointer (some ⟨X, 0, none⟩), .int .i64 k, u] w fun e w' => e = .returned (.int .i64 ((writeS S k bs).2 : Int)) ∧ Left w w' X v (writeS S k bs).1 F := by
  have c2 : w.cell? ⟨X, 2, none⟩ = some (.bool S.dead) := by rw [h.blk.cell]; rfl
  have HR := Lib.hid h
  have HRb := Lib.hid hr
  have HB := Lib.hid hb
  have HO := Lib.hid ho
  have bI : (bs.length : Int) ≤ 1000 := by omega
  obtain ⟨Ab, cb, rfl, _, _, _⟩ := hr.form
  clear h hr hb ho
  by_cases hd : S.dead = true
  · have HE : Hid (writeS S k bs = (S, 10)) := Lib.hid (by unfold writeS; rw [if_pos hd])
    rw [hd] at c2
    clear hd
    go_enter Try.func27, Try.ntmps27
    go_wp2_with (fail)
    go_ret
    rw [HE.out]
    exact ⟨rfl, Left.same HR.out⟩
  have hd' : S.dead = false := by simpa using hd
  have HD := Lib.hid hd'
  rw [hd'] at c2
  by_cases h1 : k < 0
  · have HE : Hid (writeS S k bs = (S, 1)) := Lib.hid (by unfold writeS; rw [if_neg hd, if_pos (.inl h1)])
    clear hd hd'
    go_enter Try.func27, Try.ntmps27
    go_wp2_with (fail)
    go_ret
    rw [HE.out]
    exact ⟨rfl, Left.same HR.out⟩
  by_cases h2 : 1024 ≤ k
  · have HE : Hid (writeS S k bs = (S, 1)) := Lib.hid (by unfold writeS; rw [if_neg hd, if_pos (.inr h2)])
    have g1 : decide (k < 0) = false := decide_eq_false h1
    clear hd hd' h1
    go_enter Try.func27, Try.ntmps27
    go_wp2_with (fail)
    go_ret
    rw [HE.out]
    exact ⟨rfl, Left.same HR.out⟩
  by_cases h3 : 128 < bs.length
  · have HE : Hid (writeS S k bs = (S, 3)) := Lib.hid (by unfold writeS; rw [if_neg hd, if_neg (by omega), if_pos h3])
    have g1 : decide (k < 0) = false := decide_eq_false h1
    have g2 : decide (1024 ≤ k) = false := decide_eq_false h2
    have h3I : (128 : Int) < bs.length := by omega
    clear hd hd' h1 h2
    go_enter Try.func27, Try.ntmps27
    go_wp2_with (fail)
    go_ret
    rw [HE.out]
    exact ⟨rfl, Left.same HR.out⟩
  · obtain ⟨n, rfl⟩ : ∃ n : Nat, k = (n : Int) := ⟨k.toNat, by omega⟩
    have HE : writeS S n bs = ((burnS { S with L := writeL S.L n bs }).1, if (burnS { S with L := writeL S.L n bs }).2 then 10 else 0) := by
      unfold writeS
      rw [if_neg hd, if_neg (by omega), if_neg h3]
      rfl
    refine refWrite_in HR.out n (by omega) HRb.out (by omega) hd' HO.out (fun hpos ad had => HB.out hpos ad.block (by rw [had]; rfl)) (Lib.hid fun w' F' v' Q' hr' hf' hv' hc' => ?_)
    rw [HE]
    refine ⟨?_, ⟨⟨F', v', Q', hr', hf', hv'⟩, hc'⟩⟩
    split <;> simp_all
end Go.Proofs.Ytkgbfghlonennaa

/- The ninth reference's SameAt: contract. Conditions: the disk is as a disk is; the bytes read as bytes. -/
namespace Go.Proofs.Ytkgbfghlonennaa
open Go.RowKit

set_option maxRecDepth 100000 in
set_option maxHeartbeats 1000000 in
theorem refSameAt_any {w : World} {X : Nat} {S : DS} {F : Nat → Prop} {v : Value} {Q : List PV} (h : RefIs w X S F v Q) (k : Int) {u : Value} {bs : List UInt8} (hr : Rd w u bs) (e : Int) :
    Calls Try.prog 28 #[u, .int .i64 e, .pointer (some ⟨X, 0, none⟩), .int .i64 k] w fun r w' => r = .returned (.bool (decide (bs = (readS S k).1 ∧ e = ((readS S k).2 : Int)))) ∧ Below w.heap.size w w' := by
  have HRD := Lib.hid (refRead_any h k)
  have HR := Lib.hid hr
  obtain ⟨rs, hrs⟩ : ∃ rs, rs = (readS S k).1 := ⟨_, rfl⟩
  obtain ⟨f, hf⟩ : ∃ f : Nat, f = (readS S k).2 := ⟨_, rfl⟩
  rw [← hrs, ← hf] at HRD ⊢
  clear hr h hrs hf
  go_enter Try.func28, Try.ntmps28
  go_wp2_with (fail)
  refine HRD.out.mono ?_
  rintro r w1 ⟨u1, rfl, hu1, hb1⟩
  have HU := Lib.hid hu1
  have HB := Lib.hid hb1
  clear hu1 hb1
  go_wp2_with (fail)
  refine (same_any u u1 bs rs w1 (HR.out.below HB.out) HU.out).mono ?_
  rintro r w2 ⟨rfl, m, hw2⟩
  rw [hw2]
  clear hw2 w2
  have HBm : Hid (Below w.heap.size w (w1.drewN m)) := Lib.hid (below_drewN HB.out m)
  by_cases hs : bs = rs
  · have e1 : decide (bs = rs) = true := decide_eq_true hs
    rw [e1]
    by_cases he : e = (f : Int)
    · have e2 : (e == (f : Int)) = true := by rw [he]; exact beq_self_eq_true _
      have E : Hid (decide (bs = rs ∧ e = (f : Int)) = true) := Lib.hid (decide_eq_true ⟨hs, he⟩)
      clear hs he e1
      go_wp2_with (fail)
      go_ret
      rw [E.out]
      exact ⟨rfl, HBm.out⟩
    · have e2 : (e == (f : Int)) = false := by rw [beq_eq_false_iff_ne]; exact he
      have E : Hid (decide (bs = rs ∧ e = (f : Int)) = false) := Lib.hid (decide_eq_false fun h => he h.2)
      clear hs he e1
      go_wp2_with (fail)
      go_ret
      rw [E.out]
      exact ⟨rfl, HBm.out⟩
  · have e1 : decide (bs = rs) = false := decide_eq_false hs
    rw [e1]
    have E : Hid (decide (bs = rs ∧ e = (f : Int)) = false) := Lib.hid (decide_eq_false fun h => hs h.1)
    clear hs e1
    go_wp2_with (fail)
    go_ret
    rw [E.out]
    exact ⟨rfl, HBm.out⟩
end Go.Proofs.Ytkgbfghlonennaa
