/- Part 16 of the words that the laws share: SlCon, RLayA. No condition of its own: each theorem says its own. -/
import Derived.Test.YtnaccngcpjkmbaaDoorPart15
import Derived.Test.YtnaccngcpjkmbaaDoorPart12
import Derived.Test.YtnaccngcpjkmbaaDoorPart7
import Derived.Test.YtnaccngcpjkmbaaDoorPart5
import Derived.Test.YtnaccngcpjkmbaaDoorPart14
import Derived.Test.YtnaccngcpjkmbaaDoorPart30

/- What the tenth layer's laws need of the developers' slot, over a disk: a predicate that says what a pair is, and what each call makes of it. Premises: the contracts themselves. -/
namespace Go.Proofs.YtnaccngcpjkmbaaDoor
open Go.RowKit

/-- A fingerprint's beginning. -/
def fp8 (b : List UInt8) : List UInt8 := (shaB b).take 8
/-- What is loaded: the bytes, in a new block, and their number; or nothing. -/
def LoadAns (w w' : World) (r : Option (List UInt8 × Nat × Nat)) (e : Ending) : Prop :=
  match r with
  | none => ∃ u n, e = .returned (.tuple #[u, n, .int .i64 6])
  | some (b, n, _) => ∃ u, e = .returned (.tuple #[u, .int .u64 (n : Int), .int .i64 0]) ∧ Rd w' u b ∧ ∀ j, u.ownBlock = some j → w.heap.size ≤ j
/-- A pair of slots of a disk, all blocks of both among F. -/
def Both (DC : DiskW) (At : World → Value → Value → Nat → Nat → (Nat → Prop) → Prop) (w : World) (pp dp : Value) (a k : Nat) (S : DS) (F : Nat → Prop) : Prop :=
  ∃ F1 F2, DC.Is w dp S F1 ∧ At w pp dp a k F2 ∧ (∀ j, F1 j → ¬ F2 j) ∧ F = fun j => F1 j ∨ F2 j
/-- What a call leaves of a pair and its disk. -/
structure BLeft (DC : DiskW) (At : World → Value → Value → Nat → Nat → (Nat → Prop) → Prop) (w w' : World) (pp dp : Value) (a k : Nat) (S : DS) (F : Nat → Prop) : Prop where
  both : ∃ F', Both DC At w' pp dp a k S F' ∧ ∀ j, F' j → F j ∨ w.heap.size ≤ j
  chg : Chg F w w'
structure SlotC (DC : DiskW) where
  At : World → Value → Value → Nat → Nat → (Nat → Prop) → Prop
  other : ∀ {w w' : World} {pp dp : Value} {a k : Nat} {F G : Nat → Prop}, At w pp dp a k F → Chg G w w' → (∀ j, F j → ¬ G j) → At w' pp dp a k F
  lt : ∀ {w : World} {pp dp : Value} {a k : Nat} {F : Nat → Prop}, At w pp dp a k F → ∀ j, F j → j < w.heap.size
  opn : ∀ {w : World} {dp : Value} {S : DS} {F : Nat → Prop}, DC.Is w dp S F → ∀ (a k : Int), (Lit.int .i64 a).wf = true → (Lit.int .i64 k).wf = true → 1 ≤ k → 0 ≤ a → a + 2 * k ≤ 1024 →
    Calls Tryd.prog 8 #[dp, .int .i64 a, .int .i64 k] w fun e w' => ∃ X, e = .returned (.tuple #[.pointer (some X), .int .i64 0]) ∧ (∃ G, At w' (.pointer (some X)) dp a.toNat k.toNat G ∧ ∀ j, G j → w.heap.size ≤ j) ∧ Below w.heap.size w w'
  bad : ∀ {w : World} {dp : Value} {S : DS} {F : Nat → Prop}, DC.Is w dp S F → ∀ (a k : Int), (Lit.int .i64 a).wf = true → (Lit.int .i64 k).wf = true → ¬ (1 ≤ k ∧ 0 ≤ a ∧ a + 2 * k ≤ 1024) →
    Calls Tryd.prog 8 #[dp, .int .i64 a, .int .i64 k] w fun e w' => e = .returned (.tuple #[.pointer none, .int .i64 1]) ∧ Below w.heap.size w w'
  load : ∀ {w : World} {pp dp : Value} {a k : Nat} {S : DS} {F : Nat → Prop}, Both DC At w pp dp a k S F → Salts w → 1 ≤ k → a + 2 * k ≤ 1024 →
    Calls Tryd.prog 13 #[pp] w fun e w' => LoadAns w w' (loadS fp8 S a k) e ∧ Below w.heap.size w w'
  save : ∀ {w : World} {pp dp : Value} {a k : Nat} {S : DS} {F : Nat → Prop}, Both DC At w pp dp a k S F → Salts w → (∀ j, F j → 0 < j) → 1 ≤ k → a + 2 * k ≤ 1024 → ∀ (u : Value) (bs : List UInt8), Rd w u bs → (0 < bs.length → ∀ j, u.ownBlock = some j → ¬ F j) → bs.length ≤ 104 * k → S.dead = false → mostS S a k < 1000000 → S.ops < 100000 →
    Calls Tryd.prog 10 #[pp, u] w fun e w' => ∃ n, e = .returned (.tuple #[n, .int .i64 ((saveS fp8 S a k bs false).2 : Int)]) ∧ ((saveS fp8 S a k bs false).2 = 0 → n = .int .u64 ((mostS S a k + 1 : Nat) : Int)) ∧ BLeft DC At w w' pp dp a k (saveS fp8 S a k bs false).1 F
  wipe : ∀ {w : World} {pp dp : Value} {a k : Nat} {S : DS} {F : Nat → Prop}, Both DC At w pp dp a k S F → Salts w → (∀ j, F j → 0 < j) → 1 ≤ k → a + 2 * k ≤ 1024 → ∀ (u : Value) (bs : List UInt8), Rd w u bs → (0 < bs.length → ∀ j, u.ownBlock = some j → ¬ F j) → bs.length ≤ 104 * k → S.dead = false → mostS S a k < 1000000 → S.ops < 100000 →
    (saveS fp8 S a k bs true).2 = 0 →
    Calls Tryd.prog 15 #[pp, u] w fun e w' => ∃ n, e = .returned (.tuple #[n, .int .i64 ((saveS fp8 (saveS fp8 S a k bs true).1 a k bs true).2 : Int)]) ∧ ((saveS fp8 (saveS fp8 S a k bs true).1 a k bs true).2 = 0 → n = .int .u64 ((mostS (saveS fp8 S a k bs true).1 a k + 1 : Nat) : Int)) ∧ BLeft DC At w w' pp dp a k (saveS fp8 (saveS fp8 S a k bs true).1 a k bs true).1 F
/-- The same, of a pair that is none, and of a disk that is none. -/
structure SlotN : Prop where
  opn : ∀ (a k : Int) (w : World), (Lit.int .i64 a).wf = true → (Lit.int .i64 k).wf = true → Calls Tryd.prog 8 #[.pointer none, .int .i64 a, .int .i64 k] w fun e w' => e = .returned (.tuple #[.pointer none, .int .i64 1]) ∧ Below w.heap.size w w'
  load : ∀ w : World, Calls Tryd.prog 13 #[.pointer none] w fun e w' => ∃ u n, e = .returned (.tuple #[u, n, .int .i64 6]) ∧ Below w.heap.size w w'
  save : ∀ (u : Value) (bs : List UInt8) (w : World), Rd w u bs → Calls Tryd.prog 10 #[.pointer none, u] w fun e w' => ∃ n, e = .returned (.tuple #[n, .int .i64 10]) ∧ Below w.heap.size w w'
  wipe : ∀ (u : Value) (bs : List UInt8) (w : World), Rd w u bs → Calls Tryd.prog 15 #[.pointer none, u] w fun e w' => ∃ n, e = .returned (.tuple #[n, .int .i64 10]) ∧ Below w.heap.size w w'
section
variable {DC : DiskW} (SC : SlotC DC)
/-- What a call of the disk leaves of the pair. -/
theorem both_disk {w w' : World} {pp dp : Value} {a k : Nat} {F1 F2 : Nat → Prop} {S' : DS} (ha : SC.At w pp dp a k F2) (hd : ∀ j, F1 j → ¬ F2 j) (h : DLeft DC.Is w w' dp S' F1) : BLeft DC SC.At w w' pp dp a k S' (fun j => F1 j ∨ F2 j) := by
  obtain ⟨⟨F', h1, h2⟩, h3⟩ := h
  have hlt := SC.lt ha
  refine ⟨⟨_, ⟨F', F2, h1, SC.other ha h3 fun j hj e => hd j e hj, fun j hj e => ?_, rfl⟩, fun j hj => ?_⟩, h3.mono fun j hj => .inl hj⟩
  · rcases h2 j hj with h4 | h4
    · exact hd j h4 e
    · have := hlt j e
      omega
  · rcases hj with hj | hj
    · exact (h2 j hj).imp .inl id
    · exact .inl (.inr hj)
theorem Both.other {w w' : World} {pp dp : Value} {a k : Nat} {S : DS} {F G : Nat → Prop} (h : Both DC SC.At w pp dp a k S F) (hc : Chg G w w') (hd : ∀ j, F j → ¬ G j) : Both DC SC.At w' pp dp a k S F := by
  obtain ⟨F1, F2, h1, h2, h3, rfl⟩ := h
  exact ⟨F1, F2, DC.other h1 hc fun j hj => hd j (.inl hj), SC.other h2 hc fun j hj => hd j (.inr hj), h3, rfl⟩
theorem Both.lt {w : World} {pp dp : Value} {a k : Nat} {S : DS} {F : Nat → Prop} (h : Both DC SC.At w pp dp a k S F) : ∀ j, F j → j < w.heap.size := by
  obtain ⟨F1, F2, h1, h2, h3, rfl⟩ := h
  intro j hj
  rcases hj with hj | hj
  · exact DC.lt h1 j hj
  · exact SC.lt h2 j hj
theorem Both.below {w w' : World} {pp dp : Value} {a k : Nat} {S : DS} {F : Nat → Prop} (h : Both DC SC.At w pp dp a k S F) (hb : Below w.heap.size w w') : Both DC SC.At w' pp dp a k S F :=
  h.other SC (Chg.of_below hb) fun j hj e => by have := h.lt SC j hj; omega
end
end Go.Proofs.YtnaccngcpjkmbaaDoor

/- The tenth reference's Lay: a sector's bytes 00 behind a part. No condition of its own. -/
namespace Go.Proofs.YtnaccngcpjkmbaaDoor
open Go.RowKit

def LypRel (ys : List UInt8) (B : Nat) (w : World) (v : Value) (W : World) : Prop := ∃ j : Nat, ys.length + j ≤ 128 ∧ W.ownsRow B 5 1 v (ys.length + j) ((ys ++ List.replicate j 0).map bv) ∧ Below B w W
noncomputable def body_lyp : Code := (((Tryd.f16.body.map loopsOf).getD [])[1]?).getD .skip
set_option maxRecDepth 100000 in
set_option maxHeartbeats 2000000 in
theorem lyp_loop (c0 c1 c2 c3 c4 c5 c6 c7 c8 c10 c11 c12 c13 c14 c15 c16 c17 c18 c19 c20 c21 c22 c23 c24 c25 c26 c27 c28 c29 c30 c31 c32 c33 c34 c35 c36 c37 c38 c39 c40 c41 c42 c43 c44 c45 c46 c47 c48 c49 c50 c51 c52 c53 c54 c55 c56 c57 c58 c59 c60 c61 c62 c63 c64 c65 c66 x0 : Value) (ys : List UInt8) (B : Nat) (w : World) (hB : Hid (B ≤ w.heap.size)) (hl : Hid (ys.length ≤ 128)) (h0 : Hid (w.ownsRow B 5 1 x0 ys.length (ys.map bv))) {Q : Exit → Act → World → Prop}
    (HQ : Hid (∀ (u56 u57 u58 u59 u60 u61 v : Value) (W : World), Hid (W.ownsRow B 5 1 v 128 ((pad128 ys).map bv) ∧ Below B w W) → Q (.exit 2) ⟨List.toArray (c0 :: c1 :: c2 :: c3 :: c4 :: c5 :: c6 :: c7 :: c8 :: v :: c10 :: c11 :: c12 :: c13 :: c14 :: c15 :: c16 :: c17 :: c18 :: c19 :: c20 :: c21 :: c22 :: c23 :: c24 :: c25 :: c26 :: c27 :: c28 :: c29 :: c30 :: c31 :: c32 :: c33 :: c34 :: c35 :: c36 :: c37 :: c38 :: c39 :: c40 :: c41 :: c42 :: c43 :: c44 :: c45 :: c46 :: c47 :: c48 :: c49 :: c50 :: c51 :: c52 :: c53 :: c54 :: c55 :: u56 :: u57 :: u58 :: u59 :: u60 :: u61 :: c62 :: c63 :: c64 :: c65 :: c66 :: []), []⟩ W)) :
    (Code.loop body_lyp).wp Tryd.prog Q ⟨List.toArray (c0 :: c1 :: c2 :: c3 :: c4 :: c5 :: c6 :: c7 :: c8 :: x0 :: c10 :: c11 :: c12 :: c13 :: c14 :: c15 :: c16 :: c17 :: c18 :: c19 :: c20 :: c21 :: c22 :: c23 :: c24 :: c25 :: c26 :: c27 :: c28 :: c29 :: c30 :: c31 :: c32 :: c33 :: c34 :: c35 :: c36 :: c37 :: c38 :: c39 :: c40 :: c41 :: c42 :: c43 :: c44 :: c45 :: c46 :: c47 :: c48 :: c49 :: c50 :: c51 :: c52 :: c53 :: c54 :: c55 :: c56 :: c57 :: c58 :: c59 :: c60 :: c61 :: c62 :: c63 :: c64 :: c65 :: c66 :: []), []⟩ w := by
  unfold body_lyp
  conv => arg 2; arg 1; whnf
  go_loopw [9] (fun v wx => LypRel ys B w v wx) (fun v _ => 128 - (match v with | .slice _ n _ => n | _ => 0))
  case atStart => exact ⟨0, by have := hl.out; omega, by simpa using h0.out, Below.refl _ _⟩
  case round =>
    obtain ⟨j, hj, hown, hb⟩ := hrel
    obtain ⟨A, c, rfl⟩ := own_shape hown
    obtain ⟨i0, hi, hz0, hz1, hz2⟩ := info_parts info_u8
    obtain ⟨m, hm⟩ : ∃ m, m = ys.length + j := ⟨_, rfl⟩
    rw [← hm] at hown hj ⊢
    have mI : (m : Int) ≤ 128 := by omega
    have HO := Lib.hid hown
    have HB := Lib.hid hb
    have HJ := Lib.hid hj
    have HM := Lib.hid hm
    by_cases hlt : m < 128
    · have hI : (m : Int) < 128 := by omega
      have HLT := Lib.hid hlt
      have hb3 : B ≤ wr.heap.size + 1 := by have := HB.out.size; have := hB.out; omega
      have HB3 := Lib.hid hb3
      clear hown hb hj hm hlt hb3
      go_wp2_with (at_builtin
                   go_loud (refine wpList_append_rd _ rfl _ _ _ rfl B 5 i0 _ Tryd.underlying23 hi hz0 hz1 hz2 rfl _ m _ rfl (HO.out.alloc _) _ [0] rfl (rd_one rfl) (by have := HLT.out; show m + 1 ≤ 140737488355328; omega) (by simpa using HB3.out) ?_)
                   intro v2 w2 own3 g2
                   have OW := Lib.hid own3
                   have G2 : Hid (Below B w w2) := Lib.hid ((HB.out.alloc (by have := HB.out.size; have := hB.out; omega) _).grown g2 (by simpa using HB3.out) (own_ge HO.out))
                   obtain ⟨A2, c2, rfl⟩ := own_shape own3
                   clear own3 g2
                   go_frame)
      have hlt := HLT.out
      refine ⟨⟨j + 1, by have := HM.out; omega, ?_, G2.out⟩, by show 128 - (m + 1) < 128 - m; omega⟩
      have h1 := OW.out
      have e : ys ++ List.replicate (j + 1) (0 : UInt8) = (ys ++ List.replicate j 0) ++ [0] := by rw [List.append_assoc, List.replicate_succ']
      rw [e, List.map_append, show ys.length + (j + 1) = m + 1 by rw [HM.out]; omega]
      exact h1
    · obtain rfl : m = 128 := by omega
      clear hown hb hj hm hlt
      go_wp2_with (fail)
      have e : pad128 ys = ys ++ List.replicate j 0 := by
        unfold pad128
        have := HM.out
        rw [show 128 - ys.length = j by omega]
      refine HQ.out _ _ _ _ _ _ _ _ (Lib.hid ⟨?_, HB.out⟩)
      rw [e]
      exact HO.out
end Go.Proofs.YtnaccngcpjkmbaaDoor
