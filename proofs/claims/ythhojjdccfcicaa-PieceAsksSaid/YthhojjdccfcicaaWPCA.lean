/- The thirteenth law's first statement: PieceAsks. Premise: the contracts. -/
import Derived.Test.YthhojjdccfcicaaPcAw
import Derived.Deep.RegionHeld3
import Derived.Test.YthhojjdccfcicaaKept
import Derived.BigQuiet
namespace Go.Proofs.Ythhojjdccfcicaa
open Go.RowKit

/-- Two boxes of their own. -/
structure AskS (w : World) (X Y : Nat) (V : World) : Prop where
  old : Below w.heap.size w V
  x : X < V.heap.size
  y : Y < V.heap.size
theorem AskS.on {w : World} {X Y : Nat} {V V' : World} (h : AskS w X Y V) (hb : Below V.heap.size V V') : AskS w X Y V' :=
  ⟨h.old.trans (hb.mono h.old.size), Nat.lt_of_lt_of_le h.x hb.size, Nat.lt_of_lt_of_le h.y hb.size⟩
theorem askS_on {w : World} {X Y : Nat} {s s' : ByteArray} {t v t' v' : Int} {n o n' o' : Nat} {V V' : World} (h : V.cell? ⟨X, 0, none⟩ = some (.string s) ∧ V.cell? ⟨X, 1, none⟩ = some (.int .i64 t) ∧ V.cell? ⟨X, 2, none⟩ = some (.int .i64 v) ∧ V.cell? ⟨X, 3, none⟩ = some (.int .u64 (n : Int)) ∧ V.cell? ⟨X, 4, none⟩ = some (.int .u16 (o : Int)) ∧ V.cell? ⟨Y, 0, none⟩ = some (.string s') ∧ V.cell? ⟨Y, 1, none⟩ = some (.int .i64 t') ∧ V.cell? ⟨Y, 2, none⟩ = some (.int .i64 v') ∧ V.cell? ⟨Y, 3, none⟩ = some (.int .u64 (n' : Int)) ∧ V.cell? ⟨Y, 4, none⟩ = some (.int .u16 (o' : Int)) ∧ AskS w X (Y) V) (hb : Below V.heap.size V V') : V'.cell? ⟨X, 0, none⟩ = some (.string s) ∧ V'.cell? ⟨X, 1, none⟩ = some (.int .i64 t) ∧ V'.cell? ⟨X, 2, none⟩ = some (.int .i64 v) ∧ V'.cell? ⟨X, 3, none⟩ = some (.int .u64 (n : Int)) ∧ V'.cell? ⟨X, 4, none⟩ = some (.int .u16 (o : Int)) ∧ V'.cell? ⟨Y, 0, none⟩ = some (.string s') ∧ V'.cell? ⟨Y, 1, none⟩ = some (.int .i64 t') ∧ V'.cell? ⟨Y, 2, none⟩ = some (.int .i64 v') ∧ V'.cell? ⟨Y, 3, none⟩ = some (.int .u64 (n' : Int)) ∧ V'.cell? ⟨Y, 4, none⟩ = some (.int .u16 (o' : Int)) ∧ AskS w X (Y) V' := by
  obtain ⟨a0, a1, a2, a3, a4, b0, b1, b2, b3, b4, hs⟩ := h
  have kx : ∀ (i : Nat) u, V.cell? ⟨X, i, none⟩ = some u → V'.cell? ⟨X, i, none⟩ = some u := fun i u hu => (hb.cell (p := ⟨X, i, none⟩) hs.x).trans hu
  have ky : ∀ (i : Nat) u, V.cell? ⟨Y, i, none⟩ = some u → V'.cell? ⟨Y, i, none⟩ = some u := fun i u hu => (hb.cell (p := ⟨Y, i, none⟩) hs.y).trans hu
  exact ⟨kx _ _ a0, kx _ _ a1, kx _ _ a2, kx _ _ a3, kx _ _ a4, ky _ _ b0, ky _ _ b1, ky _ _ b2, ky _ _ b3, ky _ _ b4, hs.on hb⟩
set_option maxRecDepth 100000 in
set_option maxHeartbeats 4000000 in
theorem pieceAsks.walkC (PC : PieceC) (a b : Pc) (w : World) (ha : a.Ok) (hb : b.Ok) :
    Calls Try.prog 3 #[.agg a.vs.toArray, .agg b.vs.toArray] w fun e w' => e = .returned (.bool true) ∧ Below w.heap.size w w' := by
  obtain ⟨s, t, v, n, o⟩ := a
  obtain ⟨s', t', v', n', o'⟩ := b
  have hz : s.size ≤ maxLen := ha.s
  have hz' : s'.size ≤ maxLen := hb.s
  unfold maxLen at hz hz'
  have sI : (s.size : Int) ≤ 9223372036854775807 := by omega
  have sI' : (s'.size : Int) ≤ 9223372036854775807 := by omega
  obtain ⟨ab, hab⟩ : ∃ ab, ab = aboveP n o n' o' := ⟨_, rfl⟩
  obtain ⟨lb, hlb⟩ : ∃ lb, lb = lessP ⟨s, t, v, n, o⟩ ⟨s', t', v', n', o'⟩ := ⟨_, rfl⟩
  obtain ⟨bb, z, hbz, hbm, hzm⟩ : ∃ (bb : Bool) (z : Int), ((bb = true ∧ z = 0) ∨ (bb = false ∧ z = 1)) ∧ bb = decide (Pc.may ⟨s, t, v, n, o⟩) ∧ z = (if Pc.may ⟨s, t, v, n, o⟩ then 0 else 1) := by
    by_cases hm : Pc.may ⟨s, t, v, n, o⟩
    · exact ⟨true, 0, .inl ⟨rfl, rfl⟩, (decide_eq_true hm).symm, (if_pos hm).symm⟩
    · exact ⟨false, 1, .inr ⟨rfl, rfl⟩, (decide_eq_false hm).symm, (if_neg hm).symm⟩
  have HPC : Hid (∀ W : World, Calls Try.prog 6 #[.agg #[.string s, .int .i64 t, .int .i64 v, .int .u64 (n : Int), .int .u16 (o : Int)]] W fun e W' => e = .returned (.int .i64 z) ∧ Below W.heap.size W W') := Lib.hid fun W => by
    rw [hzm]
    exact PC.check ⟨s, t, v, n, o⟩ W ha
  have HRC : Hid (∀ W : World, Calls Try.prog 7 #[.agg #[.string s, .int .i64 t, .int .i64 v, .int .u64 (n : Int), .int .u16 (o : Int)]] W fun e W' => e = .returned (.bool bb) ∧ Below W.heap.size W W') := Lib.hid fun W => by
    rw [hbm]
    exact refCheckP_any ⟨s, t, v, n, o⟩ ha W
  have HAB : Hid (∀ W : World, Calls Try.prog 8 #[.agg #[.int .u64 (n : Int), .int .u16 (o : Int)], .agg #[.int .u64 (n' : Int), .int .u16 (o' : Int)]] W fun e W' => e = .returned (.bool ab) ∧ Below W.heap.size W W') := Lib.hid fun W => by
    rw [hab]
    exact PC.above n o n' o' W ha.n ha.o hb.n hb.o
  have HRA : Hid (∀ W : World, Calls Try.prog 9 #[.agg #[.int .u64 (n : Int), .int .u16 (o : Int)], .agg #[.int .u64 (n' : Int), .int .u16 (o' : Int)]] W fun e W' => e = .returned (.bool ab) ∧ Below W.heap.size W W') := Lib.hid fun W => by
    rw [hab]
    exact refAbove_any n o n' o' W
  have HLE : Hid (∀ W : World, Calls Try.prog 10 #[.agg #[.string s, .int .i64 t, .int .i64 v, .int .u64 (n : Int), .int .u16 (o : Int)], .agg #[.string s', .int .i64 t', .int .i64 v', .int .u64 (n' : Int), .int .u16 (o' : Int)]] W fun e W' => e = .returned (.bool lb) ∧ Below W.heap.size W W') := Lib.hid fun W => by
    rw [hlb]
    exact PC.less ⟨s, t, v, n, o⟩ ⟨s', t', v', n', o'⟩ W ha hb
  have HRL : Hid (∀ W : World, Calls Try.prog 11 #[.agg #[.string s, .int .i64 t, .int .i64 v, .int .u64 (n : Int), .int .u16 (o : Int)], .agg #[.string s', .int .i64 t', .int .i64 v', .int .u64 (n' : Int), .int .u16 (o' : Int)]] W fun e W' => e = .returned (.bool lb) ∧ Below W.heap.size W W') := Lib.hid fun W => by
    rw [hlb]
    exact refLessP_any ⟨s, t, v, n, o⟩ ⟨s', t', v', n', o'⟩ W
  have HLI : Hid (∀ W : World, Calls Try.prog 10 #[.agg #[.string s, .int .i64 t, .int .i64 v, .int .u64 (n : Int), .int .u16 (o : Int)], .agg #[.string s, .int .i64 t, .int .i64 v, .int .u64 (n : Int), .int .u16 (o : Int)]] W fun e W' => e = .returned (.bool false) ∧ Below W.heap.size W W') := Lib.hid fun W => by
    have h1 := PC.less ⟨s, t, v, n, o⟩ ⟨s, t, v, n, o⟩ W ha ha
    rw [less_irrefl] at h1
    exact h1
  show Calls _ _ #[.agg #[.string s, .int .i64 t, .int .i64 v, .int .u64 (n : Int), .int .u16 (o : Int)], .agg #[.string s', .int .i64 t', .int .i64 v', .int .u64 (n' : Int), .int .u16 (o' : Int)]] w _
  clear ha hb hz hz' hab hlb hbm hzm
  have HW2 : Hid (∀ o1 o2 W', Below ((w.alloc o1).alloc o2).heap.size ((w.alloc o1).alloc o2) W' → Below w.heap.size w W') := Lib.hid fun o1 o2 W' h => (((Below.refl _ w).alloc (Nat.le_refl _) _).alloc (by simp) _).trans (h.mono (by simp; omega))
  by_cases h1 : s.size ≤ 400
  · have g1 : decide ((400 : Int) < (s.size : Int)) = false := decide_eq_false (by omega)
    by_cases h2 : s'.size ≤ 400
    · have g2 : decide ((400 : Int) < (s'.size : Int)) = false := decide_eq_false (by omega)
      clear h1 h2
      go_enter Try.func3, Try.ntmps3
      go_wp2_with (fail)
      refine (HPC.out _).mono ?_
      rintro e w1 ⟨rfl, hb1⟩
      have hs1 : ∃ X, X = w.heap.size ∧ w1.cell? ⟨X, 0, none⟩ = some (.string s) ∧ w1.cell? ⟨X, 1, none⟩ = some (.int .i64 t) ∧ w1.cell? ⟨X, 2, none⟩ = some (.int .i64 v) ∧ w1.cell? ⟨X, 3, none⟩ = some (.int .u64 (n : Int)) ∧ w1.cell? ⟨X, 4, none⟩ = some (.int .u16 (o : Int)) ∧ w1.cell? ⟨X + 1, 0, none⟩ = some (.string s') ∧ w1.cell? ⟨X + 1, 1, none⟩ = some (.int .i64 t') ∧ w1.cell? ⟨X + 1, 2, none⟩ = some (.int .i64 v') ∧ w1.cell? ⟨X + 1, 3, none⟩ = some (.int .u64 (n' : Int)) ∧ w1.cell? ⟨X + 1, 4, none⟩ = some (.int .u16 (o' : Int)) ∧ AskS w X (X + 1) w1 := by
        have k1 : ∀ (i : Nat), i < 5 → w1.cell? ⟨w.heap.size, i, none⟩ = #[Value.string s, .int .i64 t, .int .i64 v, .int .u64 (n : Int), .int .u16 (o : Int)][i]? := fun i _ => (hb1.cell (p := ⟨w.heap.size, i, none⟩) (by simp; omega)).trans (World.cell?_alloc2_first ..)
        have k2 : ∀ (i : Nat), i < 5 → w1.cell? ⟨w.heap.size + 1, i, none⟩ = #[Value.string s', .int .i64 t', .int .i64 v', .int .u64 (n' : Int), .int .u16 (o' : Int)][i]? := fun i _ => (hb1.cell (p := ⟨w.heap.size + 1, i, none⟩) (by simp)).trans (World.cell?_alloc2_new ..)
        exact ⟨_, rfl, k1 0 (by decide), k1 1 (by decide), k1 2 (by decide), k1 3 (by decide), k1 4 (by decide), k2 0 (by decide), k2 1 (by decide), k2 2 (by decide), k2 3 (by decide), k2 4 (by decide), HW2.out _ _ _ hb1, Nat.lt_of_lt_of_le (by simp; omega) hb1.size, Nat.lt_of_lt_of_le (by simp) hb1.size⟩
      obtain ⟨X, hX, hS⟩ := hs1
      simp only [← hX]
      clear hX hb1
      have SD : ∀ {V : World}, (V.cell? ⟨X, 0, none⟩ = some (.string s) ∧ V.cell? ⟨X, 1, none⟩ = some (.int .i64 t) ∧ V.cell? ⟨X, 2, none⟩ = some (.int .i64 v) ∧ V.cell? ⟨X, 3, none⟩ = some (.int .u64 (n : Int)) ∧ V.cell? ⟨X, 4, none⟩ = some (.int .u16 (o : Int)) ∧ V.cell? ⟨X + 1, 0, none⟩ = some (.string s') ∧ V.cell? ⟨X + 1, 1, none⟩ = some (.int .i64 t') ∧ V.cell? ⟨X + 1, 2, none⟩ = some (.int .i64 v') ∧ V.cell? ⟨X + 1, 3, none⟩ = some (.int .u64 (n' : Int)) ∧ V.cell? ⟨X + 1, 4, none⟩ = some (.int .u16 (o' : Int)) ∧ AskS w X (X + 1) V) → (V.drew.cell? ⟨X, 0, none⟩ = some (.string s) ∧ V.drew.cell? ⟨X, 1, none⟩ = some (.int .i64 t) ∧ V.drew.cell? ⟨X, 2, none⟩ = some (.int .i64 v) ∧ V.drew.cell? ⟨X, 3, none⟩ = some (.int .u64 (n : Int)) ∧ V.drew.cell? ⟨X, 4, none⟩ = some (.int .u16 (o : Int)) ∧ V.drew.cell? ⟨X + 1, 0, none⟩ = some (.string s') ∧ V.drew.cell? ⟨X + 1, 1, none⟩ = some (.int .i64 t') ∧ V.drew.cell? ⟨X + 1, 2, none⟩ = some (.int .i64 v') ∧ V.drew.cell? ⟨X + 1, 3, none⟩ = some (.int .u64 (n' : Int)) ∧ V.drew.cell? ⟨X + 1, 4, none⟩ = some (.int .u16 (o' : Int)) ∧ AskS w X (X + 1) V.drew) := fun h => askS_on h (below_drewN (Below.refl _ _) 1)
      have C1 : Hid (∀ V, (V.cell? ⟨X, 0, none⟩ = some (.string s) ∧ V.cell? ⟨X, 1, none⟩ = some (.int .i64 t) ∧ V.cell? ⟨X, 2, none⟩ = some (.int .i64 v) ∧ V.cell? ⟨X, 3, none⟩ = some (.int .u64 (n : Int)) ∧ V.cell? ⟨X, 4, none⟩ = some (.int .u16 (o : Int)) ∧ V.cell? ⟨X + 1, 0, none⟩ = some (.string s') ∧ V.cell? ⟨X + 1, 1, none⟩ = some (.int .i64 t') ∧ V.cell? ⟨X + 1, 2, none⟩ = some (.int .i64 v') ∧ V.cell? ⟨X + 1, 3, none⟩ = some (.int .u64 (n' : Int)) ∧ V.cell? ⟨X + 1, 4, none⟩ = some (.int .u16 (o' : Int)) ∧ AskS w X (X + 1) V) → Calls Try.prog 7 #[.agg #[.string s, .int .i64 t, .int .i64 v, .int .u64 (n : Int), .int .u16 (o : Int)]] V fun e V' => e = .returned (.bool bb) ∧ (V'.cell? ⟨X, 0, none⟩ = some (.string s) ∧ V'.cell? ⟨X, 1, none⟩ = some (.int .i64 t) ∧ V'.cell? ⟨X, 2, none⟩ = some (.int .i64 v) ∧ V'.cell? ⟨X, 3, none⟩ = some (.int .u64 (n : Int)) ∧ V'.cell? ⟨X, 4, none⟩ = some (.int .u16 (o : Int)) ∧ V'.cell? ⟨X + 1, 0, none⟩ = some (.string s') ∧ V'.cell? ⟨X + 1, 1, none⟩ = some (.int .i64 t') ∧ V'.cell? ⟨X + 1, 2, none⟩ = some (.int .i64 v') ∧ V'.cell? ⟨X + 1, 3, none⟩ = some (.int .u64 (n' : Int)) ∧ V'.cell? ⟨X + 1, 4, none⟩ = some (.int .u16 (o' : Int)) ∧ AskS w X (X + 1) V')) := Lib.hid fun V hV => by
        refine (HRC.out V).mono ?_
        rintro e V' ⟨he, hb⟩
        exact ⟨he, askS_on hV hb⟩
      have C2 : Hid (∀ V, (V.cell? ⟨X, 0, none⟩ = some (.string s) ∧ V.cell? ⟨X, 1, none⟩ = some (.int .i64 t) ∧ V.cell? ⟨X, 2, none⟩ = some (.int .i64 v) ∧ V.cell? ⟨X, 3, none⟩ = some (.int .u64 (n : Int)) ∧ V.cell? ⟨X, 4, none⟩ = some (.int .u16 (o : Int)) ∧ V.cell? ⟨X + 1, 0, none⟩ = some (.string s') ∧ V.cell? ⟨X + 1, 1, none⟩ = some (.int .i64 t') ∧ V.cell? ⟨X + 1, 2, none⟩ = some (.int .i64 v') ∧ V.cell? ⟨X + 1, 3, none⟩ = some (.int .u64 (n' : Int)) ∧ V.cell? ⟨X + 1, 4, none⟩ = some (.int .u16 (o' : Int)) ∧ AskS w X (X + 1) V) → Calls Try.prog 8 #[.agg #[.int .u64 (n : Int), .int .u16 (o : Int)], .agg #[.int .u64 (n' : Int), .int .u16 (o' : Int)]] V fun e V' => e = .returned (.bool ab) ∧ (V'.cell? ⟨X, 0, none⟩ = some (.string s) ∧ V'.cell? ⟨X, 1, none⟩ = some (.int .i64 t) ∧ V'.cell? ⟨X, 2, none⟩ = some (.int .i64 v) ∧ V'.cell? ⟨X, 3, none⟩ = some (.int .u64 (n : Int)) ∧ V'.cell? ⟨X, 4, none⟩ = some (.int .u16 (o : Int)) ∧ V'.cell? ⟨X + 1, 0, none⟩ = some (.string s') ∧ V'.cell? ⟨X + 1, 1, none⟩ = some (.int .i64 t') ∧ V'.cell? ⟨X + 1, 2, none⟩ = some (.int .i64 v') ∧ V'.cell? ⟨X + 1, 3, none⟩ = some (.int .u64 (n' : Int)) ∧ V'.cell? ⟨X + 1, 4, none⟩ = some (.int .u16 (o' : Int)) ∧ AskS w X (X + 1) V')) := Lib.hid fun V hV => by
        refine (HAB.out V).mono ?_
        rintro e V' ⟨he, hb⟩
        exact ⟨he, askS_on hV hb⟩
      have C3 : Hid (∀ V, (V.cell? ⟨X, 0, none⟩ = some (.string s) ∧ V.cell? ⟨X, 1, none⟩ = some (.int .i64 t) ∧ V.cell? ⟨X, 2, none⟩ = some (.int .i64 v) ∧ V.cell? ⟨X, 3, none⟩ = some (.int .u64 (n : Int)) ∧ V.cell? ⟨X, 4, none⟩ = some (.int .u16 (o : Int)) ∧ V.cell? ⟨X + 1, 0, none⟩ = some (.string s') ∧ V.cell? ⟨X + 1, 1, none⟩ = some (.int .i64 t') ∧ V.cell? ⟨X + 1, 2, none⟩ = some (.int .i64 v') ∧ V.cell? ⟨X + 1, 3, none⟩ = some (.int .u64 (n' : Int)) ∧ V.cell? ⟨X + 1, 4, none⟩ = some (.int .u16 (o' : Int)) ∧ AskS w X (X + 1) V) → Calls Try.prog 9 #[.agg #[.int .u64 (n : Int), .int .u16 (o : Int)], .agg #[.int .u64 (n' : Int), .int .u16 (o' : Int)]] V fun e V' => e = .returned (.bool ab) ∧ (V'.cell? ⟨X, 0, none⟩ = some (.string s) ∧ V'.cell? ⟨X, 1, none⟩ = some (.int .i64 t) ∧ V'.cell? ⟨X, 2, none⟩ = some (.int .i64 v) ∧ V'.cell? ⟨X, 3, none⟩ = some (.int .u64 (n : Int)) ∧ V'.cell? ⟨X, 4, none⟩ = some (.int .u16 (o : Int)) ∧ V'.cell? ⟨X + 1, 0, none⟩ = some (.string s') ∧ V'.cell? ⟨X + 1, 1, none⟩ = some (.int .i64 t') ∧ V'.cell? ⟨X + 1, 2, none⟩ = some (.int .i64 v') ∧ V'.cell? ⟨X + 1, 3, none⟩ = some (.int .u64 (n' : Int)) ∧ V'.cell? ⟨X + 1, 4, none⟩ = some (.int .u16 (o' : Int)) ∧ AskS w X (X + 1) V')) := Lib.hid fun V hV => by
        refine (HRA.out V).mono ?_
        rintro e V' ⟨he, hb⟩
        exact ⟨he, askS_on hV hb⟩
      have C4 : Hid (∀ V, (V.cell? ⟨X, 0, none⟩ = some (.string s) ∧ V.cell? ⟨X, 1, none⟩ = some (.int .i64 t) ∧ V.cell? ⟨X, 2, none⟩ = some (.int .i64 v) ∧ V.cell? ⟨X, 3, none⟩ = some (.int .u64 (n : Int)) ∧ V.cell? ⟨X, 4, none⟩ = some (.int .u16 (o : Int)) ∧ V.cell? ⟨X + 1, 0, none⟩ = some (.string s') ∧ V.cell? ⟨X + 1, 1, none⟩ = some (.int .i64 t') ∧ V.cell? ⟨X + 1, 2, none⟩ = some (.int .i64 v') ∧ V.cell? ⟨X + 1, 3, none⟩ = some (.int .u64 (n' : Int)) ∧ V.cell? ⟨X + 1, 4, none⟩ = some (.int .u16 (o' : Int)) ∧ AskS w X (X + 1) V) → Calls Try.prog 10 #[.agg #[.string s, .int .i64 t, .int .i64 v, .int .u64 (n : Int), .int .u16 (o : Int)], .agg #[.string s', .int .i64 t', .int .i64 v', .int .u64 (n' : Int), .int .u16 (o' : Int)]] V fun e V' => e = .returned (.bool lb) ∧ (V'.cell? ⟨X, 0, none⟩ = some (.string s) ∧ V'.cell? ⟨X, 1, none⟩ = some (.int .i64 t) ∧ V'.cell? ⟨X, 2, none⟩ = some (.int .i64 v) ∧ V'.cell? ⟨X, 3, none⟩ = some (.int .u64 (n : Int)) ∧ V'.cell? ⟨X, 4, none⟩ = some (.int .u16 (o : Int)) ∧ V'.cell? ⟨X + 1, 0, none⟩ = some (.string s') ∧ V'.cell? ⟨X + 1, 1, none⟩ = some (.int .i64 t') ∧ V'.cell? ⟨X + 1, 2, none⟩ = some (.int .i64 v') ∧ V'.cell? ⟨X + 1, 3, none⟩ = some (.int .u64 (n' : Int)) ∧ V'.cell? ⟨X + 1, 4, none⟩ = some (.int .u16 (o' : Int)) ∧ AskS w X (X + 1) V')) := Lib.hid fun V hV => by
        refine (HLE.out V).mono ?_
        rintro e V' ⟨he, hb⟩
        exact ⟨he, askS_on hV hb⟩
      have C5 : Hid (∀ V, (V.cell? ⟨X, 0, none⟩ = some (.string s) ∧ V.cell? ⟨X, 1, none⟩ = some (.int .i64 t) ∧ V.cell? ⟨X, 2, none⟩ = some (.int .i64 v) ∧ V.cell? ⟨X, 3, none⟩ = some (.int .u64 (n : Int)) ∧ V.cell? ⟨X, 4, none⟩ = some (.int .u16 (o : Int)) ∧ V.cell? ⟨X + 1, 0, none⟩ = some (.string s') ∧ V.cell? ⟨X + 1, 1, none⟩ = some (.int .i64 t') ∧ V.cell? ⟨X + 1, 2, none⟩ = some (.int .i64 v') ∧ V.cell? ⟨X + 1, 3, none⟩ = some (.int .u64 (n' : Int)) ∧ V.cell? ⟨X + 1, 4, none⟩ = some (.int .u16 (o' : Int)) ∧ AskS w X (X + 1) V) → Calls Try.prog 11 #[.agg #[.string s, .int .i64 t, .int .i64 v, .int .u64 (n : Int), .int .u16 (o : Int)], .agg #[.string s', .int .i64 t', .int .i64 v', .int .u64 (n' : Int), .int .u16 (o' : Int)]] V fun e V' => e = .returned (.bool lb) ∧ (V'.cell? ⟨X, 0, none⟩ = some (.string s) ∧ V'.cell? ⟨X, 1, none⟩ = some (.int .i64 t) ∧ V'.cell? ⟨X, 2, none⟩ = some (.int .i64 v) ∧ V'.cell? ⟨X, 3, none⟩ = some (.int .u64 (n : Int)) ∧ V'.cell? ⟨X, 4, none⟩ = some (.int .u16 (o : Int)) ∧ V'.cell? ⟨X + 1, 0, none⟩ = some (.string s') ∧ V'.cell? ⟨X + 1, 1, none⟩ = some (.int .i64 t') ∧ V'.cell? ⟨X + 1, 2, none⟩ = some (.int .i64 v') ∧ V'.cell? ⟨X + 1, 3, none⟩ = some (.int .u64 (n' : Int)) ∧ V'.cell? ⟨X + 1, 4, none⟩ = some (.int .u16 (o' : Int)) ∧ AskS w X (X + 1) V')) := Lib.hid fun V hV => by
        refine (HRL.out V).mono ?_
        rintro e V' ⟨he, hb⟩
        exact ⟨he, askS_on hV hb⟩
      have C6 : Hid (∀ V, (V.cell? ⟨X, 0, none⟩ = some (.string s) ∧ V.cell? ⟨X, 1, none⟩ = some (.int .i64 t) ∧ V.cell? ⟨X, 2, none⟩ = some (.int .i64 v) ∧ V.cell? ⟨X, 3, none⟩ = some (.int .u64 (n : Int)) ∧ V.cell? ⟨X, 4, none⟩ = some (.int .u16 (o : Int)) ∧ V.cell? ⟨X + 1, 0, none⟩ = some (.string s') ∧ V.cell? ⟨X + 1, 1, none⟩ = some (.int .i64 t') ∧ V.cell? ⟨X + 1, 2, none⟩ = some (.int .i64 v') ∧ V.cell? ⟨X + 1, 3, none⟩ = some (.int .u64 (n' : Int)) ∧ V.cell? ⟨X + 1, 4, none⟩ = some (.int .u16 (o' : Int)) ∧ AskS w X (X + 1) V) → Calls Try.prog 10 #[.agg #[.string s, .int .i64 t, .int .i64 v, .int .u64 (n : Int), .int .u16 (o : Int)], .agg #[.string s, .int .i64 t, .int .i64 v, .int .u64 (n : Int), .int .u16 (o : Int)]] V fun e V' => e = .returned (.bool false) ∧ (V'.cell? ⟨X, 0, none⟩ = some (.string s) ∧ V'.cell? ⟨X, 1, none⟩ = some (.int .i64 t) ∧ V'.cell? ⟨X, 2, none⟩ = some (.int .i64 v) ∧ V'.cell? ⟨X, 3, none⟩ = some (.int .u64 (n : Int)) ∧ V'.cell? ⟨X, 4, none⟩ = some (.int .u16 (o : Int)) ∧ V'.cell? ⟨X + 1, 0, none⟩ = some (.string s') ∧ V'.cell? ⟨X + 1, 1, none⟩ = some (.int .i64 t') ∧ V'.cell? ⟨X + 1, 2, none⟩ = some (.int .i64 v') ∧ V'.cell? ⟨X + 1, 3, none⟩ = some (.int .u64 (n' : Int)) ∧ V'.cell? ⟨X + 1, 4, none⟩ = some (.int .u16 (o' : Int)) ∧ AskS w X (X + 1) V')) := Lib.hid fun V hV => by
        refine (HLI.out V).mono ?_
        rintro e V' ⟨he, hb⟩
        exact ⟨he, askS_on hV hb⟩
      have C7 : Hid (∀ V, (V.cell? ⟨X, 0, none⟩ = some (.string s) ∧ V.cell? ⟨X, 1, none⟩ = some (.int .i64 t) ∧ V.cell? ⟨X, 2, none⟩ = some (.int .i64 v) ∧ V.cell? ⟨X, 3, none⟩ = some (.int .u64 (n : Int)) ∧ V.cell? ⟨X, 4, none⟩ = some (.int .u16 (o : Int)) ∧ V.cell? ⟨X + 1, 0, none⟩ = some (.string s') ∧ V.cell? ⟨X + 1, 1, none⟩ = some (.int .i64 t') ∧ V.cell? ⟨X + 1, 2, none⟩ = some (.int .i64 v') ∧ V.cell? ⟨X + 1, 3, none⟩ = some (.int .u64 (n' : Int)) ∧ V.cell? ⟨X + 1, 4, none⟩ = some (.int .u16 (o' : Int)) ∧ AskS w X (X + 1) V) → Calls Try.prog 5 #[] V fun e V' => e = .returned (.bool true) ∧ (V'.cell? ⟨X, 0, none⟩ = some (.string s) ∧ V'.cell? ⟨X, 1, none⟩ = some (.int .i64 t) ∧ V'.cell? ⟨X, 2, none⟩ = some (.int .i64 v) ∧ V'.cell? ⟨X, 3, none⟩ = some (.int .u64 (n : Int)) ∧ V'.cell? ⟨X, 4, none⟩ = some (.int .u16 (o : Int)) ∧ V'.cell? ⟨X + 1, 0, none⟩ = some (.string s') ∧ V'.cell? ⟨X + 1, 1, none⟩ = some (.int .i64 t') ∧ V'.cell? ⟨X + 1, 2, none⟩ = some (.int .i64 v') ∧ V'.cell? ⟨X + 1, 3, none⟩ = some (.int .u64 (n' : Int)) ∧ V'.cell? ⟨X + 1, 4, none⟩ = some (.int .u16 (o' : Int)) ∧ AskS w X (X + 1) V')) := Lib.hid fun V hV => by
        refine (awakeP_any PC V).mono ?_
        rintro e V' ⟨he, hb⟩
        exact ⟨he, askS_on hV hb⟩
      rcases hbz with ⟨rfl, rfl⟩ | ⟨rfl, rfl⟩
      · clear HPC HRC HAB HRA HLE HRL HLI
        go_wp2_with (fail)
        refine wp_region_held_drew (S := fun V => V.cell? ⟨X, 0, none⟩ = some (.string s) ∧ V.cell? ⟨X, 1, none⟩ = some (.int .i64 t) ∧ V.cell? ⟨X, 2, none⟩ = some (.int .i64 v) ∧ V.cell? ⟨X, 3, none⟩ = some (.int .u64 (n : Int)) ∧ V.cell? ⟨X, 4, none⟩ = some (.int .u16 (o : Int)) ∧ V.cell? ⟨X + 1, 0, none⟩ = some (.string s') ∧ V.cell? ⟨X + 1, 1, none⟩ = some (.int .i64 t') ∧ V.cell? ⟨X + 1, 2, none⟩ = some (.int .i64 v') ∧ V.cell? ⟨X + 1, 3, none⟩ = some (.int .u64 (n' : Int)) ∧ V.cell? ⟨X + 1, 4, none⟩ = some (.int .u16 (o' : Int)) ∧ AskS w X (X + 1) V) (by kernel_rfl) ?_ (fun hHeld => ?_)
        · (first | assumption | exact SD (by assumption))
        refine take_put (i := 0) (oi := _) (v := ?_) 19 rfl rfl (by kernel_rfl) (by kernel_rfl) (by kernel_rfl) (fun _ _ _ h => h) (Or.inl ⟨by rfl, ?hy0⟩) (by assumption) ?_
        case hy0 => ((intro W hSw); (try dsimp only at hSw); go_simp; try (with_reducible rfl))
        simp only [List.set_cons_zero, List.set_cons_succ]
        refine take_put (i := 1) (oi := _) (v := ?_) 20 rfl rfl (by kernel_rfl) (by kernel_rfl) (by kernel_rfl) (fun _ _ _ h => h) (Or.inl ⟨by rfl, ?hy1⟩) (by assumption) ?_
        case hy1 => ((intro W hSw); (try dsimp only at hSw); go_simp; try (with_reducible rfl))
        simp only [List.set_cons_zero, List.set_cons_succ]
        refine take_put (i := 2) (oi := _) (v := ?_) 21 rfl rfl (by kernel_rfl) (by kernel_rfl) (by kernel_rfl) (fun _ _ _ h => h) (Or.inl ⟨by rfl, ?hy2⟩) (by assumption) ?_
        case hy2 => ((intro W hSw); (try dsimp only at hSw); go_simp; try (with_reducible rfl))
        simp only [List.set_cons_zero, List.set_cons_succ]
        refine wpAnyH_ready (rs := [3]) (by kernel_rfl) (by simp) ?_
        refine AllReadyH.cons (o := _) rfl (fun K hK => ?_) AllReadyH.nil
        go_simp
        (go_at_call 7; refine (C1.out _ ?_).mono ?_; (first | assumption | exact SD (by assumption)); rintro e v1 ⟨rfl, s1⟩)
        refine hK.out _ _ ?_ (fun hHeld => ?_)
        · (first | assumption | exact SD (by assumption))
        clear hK K
        try simp only [Act.put, List.setIfInBounds_toArray, List.set_cons_zero, List.set_cons_succ]
        refine take_put (i := 4) (oi := _) (v := ?_) 23 rfl rfl (by kernel_rfl) (by kernel_rfl) (by kernel_rfl) (fun _ _ _ h => h) (Or.inl ⟨by rfl, ?hy4⟩) (by assumption) ?_
        case hy4 => ((intro W hSw); (try dsimp only at hSw); go_simp; try (with_reducible rfl))
        simp only [List.set_cons_zero, List.set_cons_succ]
        refine take_put (i := 5) (oi := _) (v := ?_) 24 rfl rfl (by kernel_rfl) (by kernel_rfl) (by kernel_rfl) (fun _ _ _ h => h) (Or.inl ⟨by rfl, ?hy5⟩) (by assumption) ?_
        case hy5 => ((intro W hSw); (try dsimp only at hSw); go_simp; try (with_reducible rfl))
        simp only [List.set_cons_zero, List.set_cons_succ]
        refine take_put (i := 6) (oi := _) (v := ?_) 25 rfl rfl (by kernel_rfl) (by kernel_rfl) (by kernel_rfl) (fun _ _ _ h => h) (Or.inl ⟨by rfl, ?hy6⟩) (by assumption) ?_
        case hy6 => ((intro W hSw); (try dsimp only at hSw); go_simp; try (with_reducible rfl))
        simp only [List.set_cons_zero, List.set_cons_succ]
        refine take_put (i := 7) (oi := _) (v := ?_) 26 rfl rfl (by kernel_rfl) (by kernel_rfl) (by kernel_rfl) (fun _ _ _ h => h) (Or.inl ⟨by rfl, ?hy7⟩) (by assumption) ?_
        case hy7 => ((intro W hSw); (try dsimp only at hSw); go_simp; try (with_reducible rfl))
        simp only [List.set_cons_zero, List.set_cons_succ]
        refine take_put (i := 8) (oi := _) (v := ?_) 27 rfl rfl (by kernel_rfl) (by kernel_rfl) (by kernel_rfl) (fun _ _ _ h => h) (Or.inl ⟨by rfl, ?hy8⟩) (by assumption) ?_
        case hy8 => ((intro W hSw); (try dsimp only at hSw); go_simp; try (with_reducible rfl))
        simp only [List.set_cons_zero, List.set_cons_succ]
        refine take_put (i := 9) (oi := _) (v := undef) 28 rfl rfl (by kernel_rfl) (by kernel_rfl) (by kernel_rfl) (fun _ _ _ h => h) (Or.inr ⟨by rfl, rfl⟩) (by assumption) ?_
        simp only [List.set_cons_zero, List.set_cons_succ]
        refine take_put (i := 10) (oi := _) (v := undef) 29 rfl rfl (by kernel_rfl) (by kernel_rfl) (by kernel_rfl) (fun _ _ _ h => h) (Or.inr ⟨by rfl, rfl⟩) (by assumption) ?_
        simp only [List.set_cons_zero, List.set_cons_succ]
        refine take_put (i := 11) (oi := _) (v := ?_) 30 rfl rfl (by kernel_rfl) (by kernel_rfl) (by kernel_rfl) (fun _ _ _ h => h) (Or.inl ⟨by rfl, ?hy11⟩) (by assumption) ?_
        case hy11 => ((intro W hSw); (try dsimp only at hSw); go_simp; try (with_reducible rfl))
        simp only [List.set_cons_zero, List.set_cons_succ]
        refine take_put (i := 12) (oi := _) (v := ?_) 31 rfl rfl (by kernel_rfl) (by kernel_rfl) (by kernel_rfl) (fun _ _ _ h => h) (Or.inl ⟨by rfl, ?hy12⟩) (by assumption) ?_
        case hy12 => ((intro W hSw); (try dsimp only at hSw); go_simp; try (with_reducible rfl))
        simp only [List.set_cons_zero, List.set_cons_succ]
        refine take_put (i := 13) (oi := _) (v := ?_) 32 rfl rfl (by kernel_rfl) (by kernel_rfl) (by kernel_rfl) (fun _ _ _ h => h) (Or.inl ⟨by rfl, ?hy13⟩) (by assumption) ?_
        case hy13 => ((intro W hSw); (try dsimp only at hSw); go_simp; try (with_reducible rfl))
        simp only [List.set_cons_zero, List.set_cons_succ]
        refine take_put (i := 14) (oi := _) (v := ?_) 33 rfl rfl (by kernel_rfl) (by kernel_rfl) (by kernel_rfl) (fun _ _ _ h => h) (Or.inl ⟨by rfl, ?hy14⟩) (by assumption) ?_
        case hy14 => ((intro W hSw); (try dsimp only at hSw); go_simp; try (with_reducible rfl))
        simp only [List.set_cons_zero, List.set_cons_succ]
        refine take_put (i := 15) (oi := _) (v := ?_) 34 rfl rfl (by kernel_rfl) (by kernel_rfl) (by kernel_rfl) (fun _ _ _ h => h) (Or.inl ⟨by rfl, ?hy15⟩) (by assumption) ?_
        case hy15 => ((intro W hSw); (try dsimp only at hSw); go_simp; try (with_reducible rfl))
        simp only [List.set_cons_zero, List.set_cons_succ]
        refine take_put (i := 16) (oi := _) (v := ?_) 35 rfl rfl (by kernel_rfl) (by kernel_rfl) (by kernel_rfl) (fun _ _ _ h => h) (Or.inl ⟨by rfl, ?hy16⟩) (by assumption) ?_
        case hy16 => ((intro W hSw); (try dsimp only at hSw); go_simp; try (with_reducible rfl))
        simp only [List.set_cons_zero, List.set_cons_succ]
        refine take_put (i := 17) (oi := _) (v := ?_) 36 rfl rfl (by kernel_rfl) (by kernel_rfl) (by kernel_rfl) (fun _ _ _ h => h) (Or.inl ⟨by rfl, ?hy17⟩) (by assumption) ?_
        case hy17 => ((intro W hSw); (try dsimp only at hSw); go_simp; try (with_reducible rfl))
        simp only [List.set_cons_zero, List.set_cons_succ]
        refine take_put (i := 19) (oi := _) (v := ?_) 38 rfl rfl (by kernel_rfl) (by kernel_rfl) (by kernel_rfl) (fun _ _ _ h => h) (Or.inl ⟨by rfl, ?hy19⟩) (by assumption) ?_
        case hy19 => ((intro W hSw); (try dsimp only at hSw); go_simp; try (with_reducible rfl))
        simp only [List.set_cons_zero, List.set_cons_succ]
        refine take_put (i := 20) (oi := _) (v := ?_) 39 rfl rfl (by kernel_rfl) (by kernel_rfl) (by kernel_rfl) (fun _ _ _ h => h) (Or.inl ⟨by rfl, ?hy20⟩) (by assumption) ?_
        case hy20 => ((intro W hSw); (try dsimp only at hSw); go_simp; try (with_reducible rfl))
        simp only [List.set_cons_zero, List.set_cons_succ]
        refine take_put (i := 21) (oi := _) (v := ?_) 40 rfl rfl (by kernel_rfl) (by kernel_rfl) (by kernel_rfl) (fun _ _ _ h => h) (Or.inl ⟨by rfl, ?hy21⟩) (by assumption) ?_
        case hy21 => ((intro W hSw); (try dsimp only at hSw); go_simp; try (with_reducible rfl))
        simp only [List.set_cons_zero, List.set_cons_succ]
        refine take_put (i := 22) (oi := _) (v := ?_) 41 rfl rfl (by kernel_rfl) (by kernel_rfl) (by kernel_rfl) (fun _ _ _ h => h) (Or.inl ⟨by rfl, ?hy22⟩) (by assumption) ?_
        case hy22 => ((intro W hSw); (try dsimp only at hSw); go_simp; try (with_reducible rfl))
        simp only [List.set_cons_zero, List.set_cons_succ]
        refine wpAnyH_ready (rs := [18]) (by kernel_rfl) (by simp) ?_
        refine AllReadyH.cons (o := _) rfl (fun K hK => ?_) AllReadyH.nil
        go_simp
        (go_at_call 8; refine (C2.out _ ?_).mono ?_; (first | assumption | exact SD (by assumption)); rintro e v1 ⟨rfl, s1⟩)
        refine hK.out _ _ ?_ (fun hHeld => ?_)
        · (first | assumption | exact SD (by assumption))
        clear hK K
        try simp only [Act.put, List.setIfInBounds_toArray, List.set_cons_zero, List.set_cons_succ]
        refine wpAnyH_ready (rs := [23]) (by kernel_rfl) (by simp) ?_
        refine AllReadyH.cons (o := _) rfl (fun K hK => ?_) AllReadyH.nil
        go_simp
        (go_at_call 9; refine (C3.out _ ?_).mono ?_; (first | assumption | exact SD (by assumption)); rintro e v1 ⟨rfl, s1⟩)
        refine hK.out _ _ ?_ (fun hHeld => ?_)
        · (first | assumption | exact SD (by assumption))
        clear hK K
        try simp only [Act.put, List.setIfInBounds_toArray, List.set_cons_zero, List.set_cons_succ]
        refine take_put (i := 24) (oi := _) (v := ?_) 43 rfl rfl (by kernel_rfl) (by kernel_rfl) (by kernel_rfl) (fun _ _ _ h => h) (Or.inl ⟨by rfl, ?hy24⟩) (by assumption) ?_
        case hy24 => ((intro W hSw); (try dsimp only at hSw); go_simp; try (with_reducible rfl))
        simp only [List.set_cons_zero, List.set_cons_succ]
        refine take_put (i := 25) (oi := _) (v := ?_) 44 rfl rfl (by kernel_rfl) (by kernel_rfl) (by kernel_rfl) (fun _ _ _ h => h) (Or.inl ⟨by rfl, ?hy25⟩) (by assumption) ?_
        case hy25 => ((intro W hSw); (try dsimp only at hSw); go_simp; try (with_reducible rfl))
        simp only [List.set_cons_zero, List.set_cons_succ]
        refine take_put (i := 26) (oi := _) (v := ?_) 45 rfl rfl (by kernel_rfl) (by kernel_rfl) (by kernel_rfl) (fun _ _ _ h => h) (Or.inl ⟨by rfl, ?hy26⟩) (by assumption) ?_
        case hy26 => ((intro W hSw); (try dsimp only at hSw); go_simp; try (with_reducible rfl))
        simp only [List.set_cons_zero, List.set_cons_succ]
        refine take_put (i := 27) (oi := _) (v := ?_) 46 rfl rfl (by kernel_rfl) (by kernel_rfl) (by kernel_rfl) (fun _ _ _ h => h) (Or.inl ⟨by rfl, ?hy27⟩) (by assumption) ?_
        case hy27 => ((intro W hSw); (try dsimp only at hSw); go_simp; try (with_reducible rfl))
        simp only [List.set_cons_zero, List.set_cons_succ]
        refine take_put (i := 28) (oi := _) (v := ?_) 47 rfl rfl (by kernel_rfl) (by kernel_rfl) (by kernel_rfl) (fun _ _ _ h => h) (Or.inl ⟨by rfl, ?hy28⟩) (by assumption) ?_
        case hy28 => ((intro W hSw); (try dsimp only at hSw); go_simp; try (with_reducible rfl))
        simp only [List.set_cons_zero, List.set_cons_succ]
        refine take_put (i := 30) (oi := _) (v := ?_) 49 rfl rfl (by kernel_rfl) (by kernel_rfl) (by kernel_rfl) (fun _ _ _ h => h) (Or.inl ⟨by rfl, ?hy30⟩) (by assumption) ?_
        case hy30 => ((intro W hSw); (try dsimp only at hSw); go_simp; try (with_reducible rfl))
        simp only [List.set_cons_zero, List.set_cons_succ]
        refine take_put (i := 31) (oi := _) (v := ?_) 50 rfl rfl (by kernel_rfl) (by kernel_rfl) (by kernel_rfl) (fun _ _ _ h => h) (Or.inl ⟨by rfl, ?hy31⟩) (by assumption) ?_
        case hy31 => ((intro W hSw); (try dsimp only at hSw); go_simp; try (with_reducible rfl))
        simp only [List.set_cons_zero, List.set_cons_succ]
        refine wpAnyH_ready (rs := [29]) (by kernel_rfl) (by simp) ?_
        refine AllReadyH.cons (o := _) rfl (fun K hK => ?_) AllReadyH.nil
        go_simp
        (go_at_call 10; refine (C4.out _ ?_).mono ?_; (first | assumption | exact SD (by assumption)); rintro e v1 ⟨rfl, s1⟩)
        refine hK.out _ _ ?_ (fun hHeld => ?_)
        · (first | assumption | exact SD (by assumption))
        clear hK K
        try simp only [Act.put, List.setIfInBounds_toArray, List.set_cons_zero, List.set_cons_succ]
        refine wpAnyH_ready (rs := [32]) (by kernel_rfl) (by simp) ?_
        refine AllReadyH.cons (o := _) rfl (fun K hK => ?_) AllReadyH.nil
        go_simp
        (go_at_call 11; refine (C5.out _ ?_).mono ?_; (first | assumption | exact SD (by assumption)); rintro e v1 ⟨rfl, s1⟩)
        refine hK.out _ _ ?_ (fun hHeld => ?_)
        · (first | assumption | exact SD (by assumption))
        clear hK K
        try simp only [Act.put, List.setIfInBounds_toArray, List.set_cons_zero, List.set_cons_succ]
        refine take_put (i := 33) (oi := _) (v := ?_) 52 rfl rfl (by kernel_rfl) (by kernel_rfl) (by kernel_rfl) (fun _ _ _ h => h) (Or.inl ⟨by rfl, ?hy33⟩) (by assumption) ?_
        case hy33 => ((intro W hSw); (try dsimp only at hSw); go_simp; try (with_reducible rfl))
        simp only [List.set_cons_zero, List.set_cons_succ]
        refine take_put (i := 34) (oi := _) (v := ?_) 53 rfl rfl (by kernel_rfl) (by kernel_rfl) (by kernel_rfl) (fun _ _ _ h => h) (Or.inl ⟨by rfl, ?hy34⟩) (by assumption) ?_
        case hy34 => ((intro W hSw); (try dsimp only at hSw); go_simp; try (with_reducible rfl))
        simp only [List.set_cons_zero, List.set_cons_succ]
        refine take_put (i := 35) (oi := _) (v := ?_) 54 rfl rfl (by kernel_rfl) (by kernel_rfl) (by kernel_rfl) (fun _ _ _ h => h) (Or.inl ⟨by rfl, ?hy35⟩) (by assumption) ?_
        case hy35 => ((intro W hSw); (try dsimp only at hSw); go_simp; try (with_reducible rfl))
        simp only [List.set_cons_zero, List.set_cons_succ]
        refine take_put (i := 36) (oi := _) (v := ?_) 55 rfl rfl (by kernel_rfl) (by kernel_rfl) (by kernel_rfl) (fun _ _ _ h => h) (Or.inl ⟨by rfl, ?hy36⟩) (by assumption) ?_
        case hy36 => ((intro W hSw); (try dsimp only at hSw); go_simp; try (with_reducible rfl))
        simp only [List.set_cons_zero, List.set_cons_succ]
        refine take_put (i := 37) (oi := _) (v := ?_) 56 rfl rfl (by kernel_rfl) (by kernel_rfl) (by kernel_rfl) (fun _ _ _ h => h) (Or.inl ⟨by rfl, ?hy37⟩) (by assumption) ?_
        case hy37 => ((intro W hSw); (try dsimp only at hSw); go_simp; try (with_reducible rfl))
        simp only [List.set_cons_zero, List.set_cons_succ]
        refine wpAnyH_ready (rs := [38]) (by kernel_rfl) (by simp) ?_
        refine AllReadyH.cons (o := _) rfl (fun K hK => ?_) AllReadyH.nil
        go_simp
        (go_at_call 10; refine (C6.out _ ?_).mono ?_; (first | assumption | exact SD (by assumption)); rintro e v1 ⟨rfl, s1⟩)
        refine hK.out _ _ ?_ (fun hHeld => ?_)
        · (first | assumption | exact SD (by assumption))
        clear hK K
        try simp only [Act.put, List.setIfInBounds_toArray, List.set_cons_zero, List.set_cons_succ]
        refine take_put (i := 39) (oi := _) (v := ?_) 58 rfl rfl (by kernel_rfl) (by kernel_rfl) (by kernel_rfl) (fun _ _ _ h => h) (Or.inl ⟨by rfl, ?hy39⟩) (by assumption) ?_
        case hy39 => ((intro W hSw); (try dsimp only at hSw); go_simp; try (with_reducible rfl))
        simp only [List.set_cons_zero, List.set_cons_succ]
        refine take_put (i := 40) (oi := _) (v := ?_) 59 rfl rfl (by kernel_rfl) (by kernel_rfl) (by kernel_rfl) (fun _ _ _ h => h) (Or.inl ⟨by rfl, ?hy40⟩) (by assumption) ?_
        case hy40 => ((intro W hSw); (try dsimp only at hSw); go_simp; try (with_reducible rfl))
        simp only [List.set_cons_zero, List.set_cons_succ]
        refine take_put (i := 41) (oi := _) (v := ?_) 60 rfl rfl (by kernel_rfl) (by kernel_rfl) (by kernel_rfl) (fun _ _ _ h => h) (Or.inl ⟨by rfl, ?hy41⟩) (by assumption) ?_
        case hy41 => ((intro W hSw); (try dsimp only at hSw); go_simp; try (with_reducible rfl))
        simp only [List.set_cons_zero, List.set_cons_succ]
        refine wpAnyH_ready (rs := [42]) (by kernel_rfl) (by simp) ?_
        refine AllReadyH.cons (o := _) rfl (fun K hK => ?_) AllReadyH.nil
        go_simp
        (go_at_call 5; refine (C7.out _ ?_).mono ?_; (first | assumption | exact SD (by assumption)); rintro e v1 ⟨rfl, s1⟩)
        refine hK.out _ _ ?_ (fun hHeld => ?_)
        · (first | assumption | exact SD (by assumption))
        clear hK K
        try simp only [Act.put, List.setIfInBounds_toArray, List.set_cons_zero, List.set_cons_succ]
        refine take_put (i := 43) (oi := _) (v := ?_) 62 rfl rfl (by kernel_rfl) (by kernel_rfl) (by kernel_rfl) (fun _ _ _ h => h) (Or.inl ⟨by rfl, ?hy43⟩) (by assumption) ?_
        case hy43 => ((intro W hSw); (try dsimp only at hSw); go_simp; try (with_reducible rfl))
        simp only [List.set_cons_zero, List.set_cons_succ]
        refine take_put (i := 44) (oi := _) (v := ?_) 4 rfl rfl (by kernel_rfl) (by kernel_rfl) (by kernel_rfl) (fun _ _ _ h => h) (Or.inl ⟨by rfl, ?hy44⟩) (by assumption) ?_
        case hy44 => ((intro W hSw); (try dsimp only at hSw); go_simp; try (with_reducible rfl))
        simp only [List.set_cons_zero, List.set_cons_succ]
        refine wpAnyH_done (by kernel_rfl) ?_ _
        have HB := Lib.hid s1.2.2.2.2.2.2.2.2.2.2.old
        go_wp2_with (fail)
        go_ret
        exact ⟨rfl, HB.out⟩
      · clear HPC HRC HAB HRA HLE HRL HLI
        go_wp2_with (fail)
        refine wp_region_held_drew (S := fun V => V.cell? ⟨X, 0, none⟩ = some (.string s) ∧ V.cell? ⟨X, 1, none⟩ = some (.int .i64 t) ∧ V.cell? ⟨X, 2, none⟩ = some (.int .i64 v) ∧ V.cell? ⟨X, 3, none⟩ = some (.int .u64 (n : Int)) ∧ V.cell? ⟨X, 4, none⟩ = some (.int .u16 (o : Int)) ∧ V.cell? ⟨X + 1, 0, none⟩ = some (.string s') ∧ V.cell? ⟨X + 1, 1, none⟩ = some (.int .i64 t') ∧ V.cell? ⟨X + 1, 2, none⟩ = some (.int .i64 v') ∧ V.cell? ⟨X + 1, 3, none⟩ = some (.int .u64 (n' : Int)) ∧ V.cell? ⟨X + 1, 4, none⟩ = some (.int .u16 (o' : Int)) ∧ AskS w X (X + 1) V) (by kernel_rfl) ?_ (fun hHeld => ?_)
        · (first | assumption | exact SD (by assumption))
        refine take_put (i := 0) (oi := _) (v := ?_) 19 rfl rfl (by kernel_rfl) (by kernel_rfl) (by kernel_rfl) (fun _ _ _ h => h) (Or.inl ⟨by rfl, ?hy0⟩) (by assumption) ?_
        case hy0 => ((intro W hSw); (try dsimp only at hSw); go_simp; try (with_reducible rfl))
        simp only [List.set_cons_zero, List.set_cons_succ]
        refine take_put (i := 1) (oi := _) (v := ?_) 20 rfl rfl (by kernel_rfl) (by kernel_rfl) (by kernel_rfl) (fun _ _ _ h => h) (Or.inl ⟨by rfl, ?hy1⟩) (by assumption) ?_
        case hy1 => ((intro W hSw); (try dsimp only at hSw); go_simp; try (with_reducible rfl))
        simp only [List.set_cons_zero, List.set_cons_succ]
        refine take_put (i := 2) (oi := _) (v := ?_) 21 rfl rfl (by kernel_rfl) (by kernel_rfl) (by kernel_rfl) (fun _ _ _ h => h) (Or.inl ⟨by rfl, ?hy2⟩) (by assumption) ?_
        case hy2 => ((intro W hSw); (try dsimp only at hSw); go_simp; try (with_reducible rfl))
        simp only [List.set_cons_zero, List.set_cons_succ]
        refine wpAnyH_ready (rs := [3]) (by kernel_rfl) (by simp) ?_
        refine AllReadyH.cons (o := _) rfl (fun K hK => ?_) AllReadyH.nil
        go_simp
        (go_at_call 7; refine (C1.out _ ?_).mono ?_; (first | assumption | exact SD (by assumption)); rintro e v1 ⟨rfl, s1⟩)
        refine hK.out _ _ ?_ (fun hHeld => ?_)
        · (first | assumption | exact SD (by assumption))
        clear hK K
        try simp only [Act.put, List.setIfInBounds_toArray, List.set_cons_zero, List.set_cons_succ]
        refine take_put (i := 4) (oi := _) (v := ?_) 23 rfl rfl (by kernel_rfl) (by kernel_rfl) (by kernel_rfl) (fun _ _ _ h => h) (Or.inl ⟨by rfl, ?hy4⟩) (by assumption) ?_
        case hy4 => ((intro W hSw); (try dsimp only at hSw); go_simp; try (with_reducible rfl))
        simp only [List.set_cons_zero, List.set_cons_succ]
        refine take_put (i := 5) (oi := _) (v := ?_) 24 rfl rfl (by kernel_rfl) (by kernel_rfl) (by kernel_rfl) (fun _ _ _ h => h) (Or.inl ⟨by rfl, ?hy5⟩) (by assumption) ?_
        case hy5 => ((intro W hSw); (try dsimp only at hSw); go_simp; try (with_reducible rfl))
        simp only [List.set_cons_zero, List.set_cons_succ]
        refine take_put (i := 6) (oi := _) (v := ?_) 25 rfl rfl (by kernel_rfl) (by kernel_rfl) (by kernel_rfl) (fun _ _ _ h => h) (Or.inl ⟨by rfl, ?hy6⟩) (by assumption) ?_
        case hy6 => ((intro W hSw); (try dsimp only at hSw); go_simp; try (with_reducible rfl))
        simp only [List.set_cons_zero, List.set_cons_succ]
        refine take_put (i := 7) (oi := _) (v := ?_) 26 rfl rfl (by kernel_rfl) (by kernel_rfl) (by kernel_rfl) (fun _ _ _ h => h) (Or.inl ⟨by rfl, ?hy7⟩) (by assumption) ?_
        case hy7 => ((intro W hSw); (try dsimp only at hSw); go_simp; try (with_reducible rfl))
        simp only [List.set_cons_zero, List.set_cons_succ]
        refine take_put (i := 8) (oi := _) (v := ?_) 27 rfl rfl (by kernel_rfl) (by kernel_rfl) (by kernel_rfl) (fun _ _ _ h => h) (Or.inl ⟨by rfl, ?hy8⟩) (by assumption) ?_
        case hy8 => ((intro W hSw); (try dsimp only at hSw); go_simp; try (with_reducible rfl))
        simp only [List.set_cons_zero, List.set_cons_succ]
        refine take_put (i := 9) (oi := _) (v := ?_) 28 rfl rfl (by kernel_rfl) (by kernel_rfl) (by kernel_rfl) (fun _ _ _ h => h) (Or.inl ⟨by rfl, ?hy9⟩) (by assumption) ?_
        case hy9 => ((intro W hSw); (try dsimp only at hSw); go_simp; try (with_reducible rfl))
        simp only [List.set_cons_zero, List.set_cons_succ]
        refine take_put (i := 10) (oi := _) (v := ?_) 29 rfl rfl (by kernel_rfl) (by kernel_rfl) (by kernel_rfl) (fun _ _ _ h => h) (Or.inl ⟨by rfl, ?hy10⟩) (by assumption) ?_
        case hy10 => ((intro W hSw); (try dsimp only at hSw); go_simp; try (with_reducible rfl))
        simp only [List.set_cons_zero, List.set_cons_succ]
        refine take_put (i := 11) (oi := _) (v := ?_) 30 rfl rfl (by kernel_rfl) (by kernel_rfl) (by kernel_rfl) (fun _ _ _ h => h) (Or.inl ⟨by rfl, ?hy11⟩) (by assumption) ?_
        case hy11 => ((intro W hSw); (try dsimp only at hSw); go_simp; try (with_reducible rfl))
        simp only [List.set_cons_zero, List.set_cons_succ]
        refine take_put (i := 12) (oi := _) (v := ?_) 31 rfl rfl (by kernel_rfl) (by kernel_rfl) (by kernel_rfl) (fun _ _ _ h => h) (Or.inl ⟨by rfl, ?hy12⟩) (by assumption) ?_
        case hy12 => ((intro W hSw); (try dsimp only at hSw); go_simp; try (with_reducible rfl))
        simp only [List.set_cons_zero, List.set_cons_succ]
        refine take_put (i := 13) (oi := _) (v := ?_) 32 rfl rfl (by kernel_rfl) (by kernel_rfl) (by kernel_rfl) (fun _ _ _ h => h) (Or.inl ⟨by rfl, ?hy13⟩) (by assumption) ?_
        case hy13 => ((intro W hSw); (try dsimp only at hSw); go_simp; try (with_reducible rfl))
        simp only [List.set_cons_zero, List.set_cons_succ]
        refine take_put (i := 14) (oi := _) (v := ?_) 33 rfl rfl (by kernel_rfl) (by kernel_rfl) (by kernel_rfl) (fun _ _ _ h => h) (Or.inl ⟨by rfl, ?hy14⟩) (by assumption) ?_
        case hy14 => ((intro W hSw); (try dsimp only at hSw); go_simp; try (with_reducible rfl))
        simp only [List.set_cons_zero, List.set_cons_succ]
        refine take_put (i := 15) (oi := _) (v := ?_) 34 rfl rfl (by kernel_rfl) (by kernel_rfl) (by kernel_rfl) (fun _ _ _ h => h) (Or.inl ⟨by rfl, ?hy15⟩) (by assumption) ?_
        case hy15 => ((intro W hSw); (try dsimp only at hSw); go_simp; try (with_reducible rfl))
        simp only [List.set_cons_zero, List.set_cons_succ]
        refine take_put (i := 16) (oi := _) (v := ?_) 35 rfl rfl (by kernel_rfl) (by kernel_rfl) (by kernel_rfl) (fun _ _ _ h => h) (Or.inl ⟨by rfl, ?hy16⟩) (by assumption) ?_
        case hy16 => ((intro W hSw); (try dsimp only at hSw); go_simp; try (with_reducible rfl))
        simp only [List.set_cons_zero, List.set_cons_succ]
        refine take_put (i := 17) (oi := _) (v := ?_) 36 rfl rfl (by kernel_rfl) (by kernel_rfl) (by kernel_rfl) (fun _ _ _ h => h) (Or.inl ⟨by rfl, ?hy17⟩) (by assumption) ?_
        case hy17 => ((intro W hSw); (try dsimp only at hSw); go_simp; try (with_reducible rfl))
        simp only [List.set_cons_zero, List.set_cons_succ]
        refine take_put (i := 19) (oi := _) (v := ?_) 38 rfl rfl (by kernel_rfl) (by kernel_rfl) (by kernel_rfl) (fun _ _ _ h => h) (Or.inl ⟨by rfl, ?hy19⟩) (by assumption) ?_
        case hy19 => ((intro W hSw); (try dsimp only at hSw); go_simp; try (with_reducible rfl))
        simp only [List.set_cons_zero, List.set_cons_succ]
        refine take_put (i := 20) (oi := _) (v := ?_) 39 rfl rfl (by kernel_rfl) (by kernel_rfl) (by kernel_rfl) (fun _ _ _ h => h) (Or.inl ⟨by rfl, ?hy20⟩) (by assumption) ?_
        case hy20 => ((intro W hSw); (try dsimp only at hSw); go_simp; try (with_reducible rfl))
        simp only [List.set_cons_zero, List.set_cons_succ]
        refine take_put (i := 21) (oi := _) (v := ?_) 40 rfl rfl (by kernel_rfl) (by kernel_rfl) (by kernel_rfl) (fun _ _ _ h => h) (Or.inl ⟨by rfl, ?hy21⟩) (by assumption) ?_
        case hy21 => ((intro W hSw); (try dsimp only at hSw); go_simp; try (with_reducible rfl))
        simp only [List.set_cons_zero, List.set_cons_succ]
        refine take_put (i := 22) (oi := _) (v := ?_) 41 rfl rfl (by kernel_rfl) (by kernel_rfl) (by kernel_rfl) (fun _ _ _ h => h) (Or.inl ⟨by rfl, ?hy22⟩) (by assumption) ?_
        case hy22 => ((intro W hSw); (try dsimp only at hSw); go_simp; try (with_reducible rfl))
        simp only [List.set_cons_zero, List.set_cons_succ]
        refine wpAnyH_ready (rs := [18]) (by kernel_rfl) (by simp) ?_
        refine AllReadyH.cons (o := _) rfl (fun K hK => ?_) AllReadyH.nil
        go_simp
        (go_at_call 8; refine (C2.out _ ?_).mono ?_; (first | assumption | exact SD (by assumption)); rintro e v1 ⟨rfl, s1⟩)
        refine hK.out _ _ ?_ (fun hHeld => ?_)
        · (first | assumption | exact SD (by assumption))
        clear hK K
        try simp only [Act.put, List.setIfInBounds_toArray, List.set_cons_zero, List.set_cons_succ]
        refine wpAnyH_ready (rs := [23]) (by kernel_rfl) (by simp) ?_
        refine AllReadyH.cons (o := _) rfl (fun K hK => ?_) AllReadyH.nil
        go_simp
        (go_at_call 9; refine (C3.out _ ?_).mono ?_; (first | assumption | exact SD (by assumption)); rintro e v1 ⟨rfl, s1⟩)
        refine hK.out _ _ ?_ (fun hHeld => ?_)
        · (first | assumption | exact SD (by assumption))
        clear hK K
        try simp only [Act.put, List.setIfInBounds_toArray, List.set_cons_zero, List.set_cons_succ]
        refine take_put (i := 24) (oi := _) (v := ?_) 43 rfl rfl (by kernel_rfl) (by kernel_rfl) (by kernel_rfl) (fun _ _ _ h => h) (Or.inl ⟨by rfl, ?hy24⟩) (by assumption) ?_
        case hy24 => ((intro W hSw); (try dsimp only at hSw); go_simp; try (with_reducible rfl))
        simp only [List.set_cons_zero, List.set_cons_succ]
        refine take_put (i := 25) (oi := _) (v := ?_) 44 rfl rfl (by kernel_rfl) (by kernel_rfl) (by kernel_rfl) (fun _ _ _ h => h) (Or.inl ⟨by rfl, ?hy25⟩) (by assumption) ?_
        case hy25 => ((intro W hSw); (try dsimp only at hSw); go_simp; try (with_reducible rfl))
        simp only [List.set_cons_zero, List.set_cons_succ]
        refine take_put (i := 26) (oi := _) (v := ?_) 45 rfl rfl (by kernel_rfl) (by kernel_rfl) (by kernel_rfl) (fun _ _ _ h => h) (Or.inl ⟨by rfl, ?hy26⟩) (by assumption) ?_
        case hy26 => ((intro W hSw); (try dsimp only at hSw); go_simp; try (with_reducible rfl))
        simp only [List.set_cons_zero, List.set_cons_succ]
        refine take_put (i := 27) (oi := _) (v := ?_) 46 rfl rfl (by kernel_rfl) (by kernel_rfl) (by kernel_rfl) (fun _ _ _ h => h) (Or.inl ⟨by rfl, ?hy27⟩) (by assumption) ?_
        case hy27 => ((intro W hSw); (try dsimp only at hSw); go_simp; try (with_reducible rfl))
        simp only [List.set_cons_zero, List.set_cons_succ]
        refine take_put (i := 28) (oi := _) (v := ?_) 47 rfl rfl (by kernel_rfl) (by kernel_rfl) (by kernel_rfl) (fun _ _ _ h => h) (Or.inl ⟨by rfl, ?hy28⟩) (by assumption) ?_
        case hy28 => ((intro W hSw); (try dsimp only at hSw); go_simp; try (with_reducible rfl))
        simp only [List.set_cons_zero, List.set_cons_succ]
        refine take_put (i := 30) (oi := _) (v := ?_) 49 rfl rfl (by kernel_rfl) (by kernel_rfl) (by kernel_rfl) (fun _ _ _ h => h) (Or.inl ⟨by rfl, ?hy30⟩) (by assumption) ?_
        case hy30 => ((intro W hSw); (try dsimp only at hSw); go_simp; try (with_reducible rfl))
        simp only [List.set_cons_zero, List.set_cons_succ]
        refine take_put (i := 31) (oi := _) (v := ?_) 50 rfl rfl (by kernel_rfl) (by kernel_rfl) (by kernel_rfl) (fun _ _ _ h => h) (Or.inl ⟨by rfl, ?hy31⟩) (by assumption) ?_
        case hy31 => ((intro W hSw); (try dsimp only at hSw); go_simp; try (with_reducible rfl))
        simp only [List.set_cons_zero, List.set_cons_succ]
        refine wpAnyH_ready (rs := [29]) (by kernel_rfl) (by simp) ?_
        refine AllReadyH.cons (o := _) rfl (fun K hK => ?_) AllReadyH.nil
        go_simp
        (go_at_call 10; refine (C4.out _ ?_).mono ?_; (first | assumption | exact SD (by assumption)); rintro e v1 ⟨rfl, s1⟩)
        refine hK.out _ _ ?_ (fun hHeld => ?_)
        · (first | assumption | exact SD (by assumption))
        clear hK K
        try simp only [Act.put, List.setIfInBounds_toArray, List.set_cons_zero, List.set_cons_succ]
        refine wpAnyH_ready (rs := [32]) (by kernel_rfl) (by simp) ?_
        refine AllReadyH.cons (o := _) rfl (fun K hK => ?_) AllReadyH.nil
        go_simp
        (go_at_call 11; refine (C5.out _ ?_).mono ?_; (first | assumption | exact SD (by assumption)); rintro e v1 ⟨rfl, s1⟩)
        refine hK.out _ _ ?_ (fun hHeld => ?_)
        · (first | assumption | exact SD (by assumption))
        clear hK K
        try simp only [Act.put, List.setIfInBounds_toArray, List.set_cons_zero, List.set_cons_succ]
        refine take_put (i := 33) (oi := _) (v := ?_) 52 rfl rfl (by kernel_rfl) (by kernel_rfl) (by kernel_rfl) (fun _ _ _ h => h) (Or.inl ⟨by rfl, ?hy33⟩) (by assumption) ?_
        case hy33 => ((intro W hSw); (try dsimp only at hSw); go_simp; try (with_reducible rfl))
        simp only [List.set_cons_zero, List.set_cons_succ]
        refine take_put (i := 34) (oi := _) (v := ?_) 53 rfl rfl (by kernel_rfl) (by kernel_rfl) (by kernel_rfl) (fun _ _ _ h => h) (Or.inl ⟨by rfl, ?hy34⟩) (by assumption) ?_
        case hy34 => ((intro W hSw); (try dsimp only at hSw); go_simp; try (with_reducible rfl))
        simp only [List.set_cons_zero, List.set_cons_succ]
        refine take_put (i := 35) (oi := _) (v := ?_) 54 rfl rfl (by kernel_rfl) (by kernel_rfl) (by kernel_rfl) (fun _ _ _ h => h) (Or.inl ⟨by rfl, ?hy35⟩) (by assumption) ?_
        case hy35 => ((intro W hSw); (try dsimp only at hSw); go_simp; try (with_reducible rfl))
        simp only [List.set_cons_zero, List.set_cons_succ]
        refine take_put (i := 36) (oi := _) (v := ?_) 55 rfl rfl (by kernel_rfl) (by kernel_rfl) (by kernel_rfl) (fun _ _ _ h => h) (Or.inl ⟨by rfl, ?hy36⟩) (by assumption) ?_
        case hy36 => ((intro W hSw); (try dsimp only at hSw); go_simp; try (with_reducible rfl))
        simp only [List.set_cons_zero, List.set_cons_succ]
        refine take_put (i := 37) (oi := _) (v := ?_) 56 rfl rfl (by kernel_rfl) (by kernel_rfl) (by kernel_rfl) (fun _ _ _ h => h) (Or.inl ⟨by rfl, ?hy37⟩) (by assumption) ?_
        case hy37 => ((intro W hSw); (try dsimp only at hSw); go_simp; try (with_reducible rfl))
        simp only [List.set_cons_zero, List.set_cons_succ]
        refine wpAnyH_ready (rs := [38]) (by kernel_rfl) (by simp) ?_
        refine AllReadyH.cons (o := _) rfl (fun K hK => ?_) AllReadyH.nil
        go_simp
        (go_at_call 10; refine (C6.out _ ?_).mono ?_; (first | assumption | exact SD (by assumption)); rintro e v1 ⟨rfl, s1⟩)
        refine hK.out _ _ ?_ (fun hHeld => ?_)
        · (first | assumption | exact SD (by assumption))
        clear hK K
        try simp only [Act.put, List.setIfInBounds_toArray, List.set_cons_zero, List.set_cons_succ]
        refine take_put (i := 39) (oi := _) (v := ?_) 58 rfl rfl (by kernel_rfl) (by kernel_rfl) (by kernel_rfl) (fun _ _ _ h => h) (Or.inl ⟨by rfl, ?hy39⟩) (by assumption) ?_
        case hy39 => ((intro W hSw); (try dsimp only at hSw); go_simp; try (with_reducible rfl))
        simp only [List.set_cons_zero, List.set_cons_succ]
        refine take_put (i := 40) (oi := _) (v := ?_) 59 rfl rfl (by kernel_rfl) (by kernel_rfl) (by kernel_rfl) (fun _ _ _ h => h) (Or.inl ⟨by rfl, ?hy40⟩) (by assumption) ?_
        case hy40 => ((intro W hSw); (try dsimp only at hSw); go_simp; try (with_reducible rfl))
        simp only [List.set_cons_zero, List.set_cons_succ]
        refine take_put (i := 41) (oi := _) (v := ?_) 60 rfl rfl (by kernel_rfl) (by kernel_rfl) (by kernel_rfl) (fun _ _ _ h => h) (Or.inl ⟨by rfl, ?hy41⟩) (by assumption) ?_
        case hy41 => ((intro W hSw); (try dsimp only at hSw); go_simp; try (with_reducible rfl))
        simp only [List.set_cons_zero, List.set_cons_succ]
        refine wpAnyH_ready (rs := [42]) (by kernel_rfl) (by simp) ?_
        refine AllReadyH.cons (o := _) rfl (fun K hK => ?_) AllReadyH.nil
        go_simp
        (go_at_call 5; refine (C7.out _ ?_).mono ?_; (first | assumption | exact SD (by assumption)); rintro e v1 ⟨rfl, s1⟩)
        refine hK.out _ _ ?_ (fun hHeld => ?_)
        · (first | assumption | exact SD (by assumption))
        clear hK K
        try simp only [Act.put, List.setIfInBounds_toArray, List.set_cons_zero, List.set_cons_succ]
        refine take_put (i := 43) (oi := _) (v := ?_) 62 rfl rfl (by kernel_rfl) (by kernel_rfl) (by kernel_rfl) (fun _ _ _ h => h) (Or.inl ⟨by rfl, ?hy43⟩) (by assumption) ?_
        case hy43 => ((intro W hSw); (try dsimp only at hSw); go_simp; try (with_reducible rfl))
        simp only [List.set_cons_zero, List.set_cons_succ]
        refine take_put (i := 44) (oi := _) (v := ?_) 4 rfl rfl (by kernel_rfl) (by kernel_rfl) (by kernel_rfl) (fun _ _ _ h => h) (Or.inl ⟨by rfl, ?hy44⟩) (by assumption) ?_
        case hy44 => ((intro W hSw); (try dsimp only at hSw); go_simp; try (with_reducible rfl))
        simp only [List.set_cons_zero, List.set_cons_succ]
        refine wpAnyH_done (by kernel_rfl) ?_ _
        have HB := Lib.hid s1.2.2.2.2.2.2.2.2.2.2.old
        go_wp2_with (fail)
        go_ret
        exact ⟨rfl, HB.out⟩
    · have g2 : decide ((400 : Int) < (s'.size : Int)) = true := decide_eq_true (by omega)
      clear h1 h2
      go_enter Try.func3, Try.ntmps3
      go_wp2_with (fail)
      refine (awakeP_any PC _).mono ?_
      rintro e w1 ⟨rfl, hb1⟩
      have B1 := Lib.hid (HW2.out _ _ _ hb1)
      clear hb1
      go_wp2_with (fail)
      go_ret
      exact ⟨rfl, B1.out⟩
  · have g1 : decide ((400 : Int) < (s.size : Int)) = true := decide_eq_true (by omega)
    clear h1
    go_enter Try.func3, Try.ntmps3
    go_wp2_with (fail)
    refine (awakeP_any PC _).mono ?_
    rintro e w1 ⟨rfl, hb1⟩
    have B1 := Lib.hid (HW2.out _ _ _ hb1)
    clear hb1
    go_wp2_with (fail)
    go_ret
    exact ⟨rfl, B1.out⟩
end Go.Proofs.Ythhojjdccfcicaa
