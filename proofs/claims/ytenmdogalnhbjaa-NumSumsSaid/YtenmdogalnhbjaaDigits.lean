/- The contracts of the reference's digits and Add: a wide number's digits in base 2^32, and the sum digit by digit. Conditions: the halves of a wide number fit int64 and uint64. -/
import Derived.Test.YtenmdogalnhbjaaAdd
import Derived.Test.YtenmdogalnhbjaaLess
import Derived.Deep.RegionWith
import Derived.Deep.DeepCutAuto
import Derived.StillTailTactics
namespace Go.Proofs.Ytenmdogalnhbjaa
open Go.RowKit

/-- The value v is a slice of uint64 at the head of a block, that reads as the numbers ds. -/
def Rq (w : World) (v : Value) (ds : List Nat) : Prop :=
  ∃ g c, v = .slice (some ⟨g, 0, none⟩) ds.length c ∧ ds.length ≤ c ∧ c ≤ maxLen ∧ g < w.heap.size ∧ ∀ i (h : i < ds.length), w.cell? ⟨g, i, none⟩ = some (.int .u64 ((ds[i] : Nat) : Int))
theorem Rq.below {w w' : World} {v : Value} {ds : List Nat} (h : Rq w v ds) (hb : Below w.heap.size w w') : Rq w' v ds := by
  obtain ⟨g, c, h1, h2, h3, h4, h5⟩ := h
  exact ⟨g, c, h1, h2, h3, Nat.lt_of_lt_of_le h4 hb.size, fun i hi => (hb.cell (p := ⟨g, i, none⟩) h4).trans (h5 i hi)⟩
theorem Rq.drew {w : World} {v : Value} {ds : List Nat} (h : Rq w v ds) : Rq w.drew v ds := h
theorem Rq.drewN {w : World} {v : Value} {ds : List Nat} (h : Rq w v ds) (n : Nat) : Rq (w.drewN n) v ds := h
/-- A wide number's digits in base 2^32, of its sum with 2^127. -/
def dig4 (a b : Int) : List Nat := [(b % 4294967296).toNat, (b / 4294967296).toNat, ((a + 9223372036854775808) % 4294967296).toNat, ((a + 9223372036854775808) / 4294967296).toNat]

def DigPost (w : World) (ds : List Nat) (e : Ending) (w' : World) : Prop := ∃ v, e = .returned v ∧ Rq w' v ds ∧ Below w.heap.size w w'
theorem dig_wrap (a : Int) (ha : -9223372036854775808 ≤ a ∧ a ≤ 9223372036854775807) : IntKind.u64.wrap (IntKind.u64.wrap a + 9223372036854775808) = a + 9223372036854775808 := by
  rw [IntKind.wrap_u64, IntKind.wrap_u64]
  omega
theorem rq_four {w : World} {t : TypeId} {a b c d : Nat} : Rq (w.alloc (.cells #[.int .u64 a, .int .u64 b, .int .u64 c, .int .u64 d] t)) (.slice (some ⟨w.heap.size, 0, none⟩) 4 4) [a, b, c, d] := by
  refine ⟨w.heap.size, 4, rfl, by simp, by unfold maxLen; omega, by simp, fun i hi => ?_⟩
  have h : i = 0 ∨ i = 1 ∨ i = 2 ∨ i = 3 := by simp at hi; omega
  rcases h with rfl | rfl | rfl | rfl <;> simp

/-- The number whose digits in base 2^32 these are, the lowest first. -/
def le32 : List Nat → Nat
  | [] => 0
  | x :: r => x + 4294967296 * le32 r
theorem dig4_val (a b : Int) (ha : -9223372036854775808 ≤ a ∧ a ≤ 9223372036854775807) (hb : 0 ≤ b ∧ b ≤ 18446744073709551615) :
    (dig4 a b).length = 4 ∧ (∀ x ∈ dig4 a b, x < 4294967296) ∧ ((le32 (dig4 a b) : Nat) : Int) = (a + 9223372036854775808) * 18446744073709551616 + b := by
  refine ⟨rfl, fun x hx => ?_, ?_⟩
  · simp [dig4] at hx
    omega
  · simp only [dig4, le32]
    omega
theorem le32_snoc (xs : List Nat) (c : Nat) : le32 (xs ++ [c]) = le32 xs + 4294967296 ^ xs.length * c := by
  induction xs with
  | nil => simp [le32]
  | cons x r ih =>
    rw [List.cons_append, le32, ih, le32, List.length_cons, Nat.pow_succ, Nat.mul_add, ← Nat.mul_assoc, Nat.mul_comm 4294967296 (4294967296 ^ _)]
    omega
/-- One round of the sum. -/
theorem add_step {X Y zs : List Nat} {j cc x y : Nat} (hX : X.length = 4) (hY : Y.length = 4) (hj : j < 4) (hx : X[j]? = some x) (hy : Y[j]? = some y) (hz : zs.length = j)
    (h : le32 zs + cc * 4294967296 ^ j = le32 (X.take j) + le32 (Y.take j)) :
    le32 (zs ++ [(x + y + cc) % 4294967296]) + (x + y + cc) / 4294967296 * 4294967296 ^ (j + 1) = le32 (X.take (j + 1)) + le32 (Y.take (j + 1)) := by
  have e1 : j < X.length := by omega
  have e2 : j < Y.length := by omega
  have ex : X[j] = x := by rw [List.getElem?_eq_getElem e1] at hx; exact Option.some.inj hx
  have ey : Y[j] = y := by rw [List.getElem?_eq_getElem e2] at hy; exact Option.some.inj hy
  rw [List.take_succ_eq_append_getElem e1, List.take_succ_eq_append_getElem e2, le32_snoc, le32_snoc, le32_snoc, hz, List.length_take, List.length_take, Nat.min_eq_left (by omega), Nat.min_eq_left (by omega), ex, ey, Nat.pow_succ]
  obtain ⟨s, hs⟩ : ∃ s, s = x + y + cc := ⟨_, rfl⟩
  rw [← hs]
  have h1 : s / 4294967296 * (4294967296 ^ j * 4294967296) + 4294967296 ^ j * (s % 4294967296) = 4294967296 ^ j * s := by
    have h2 := Nat.div_add_mod s 4294967296
    have h3 : s / 4294967296 * (4294967296 ^ j * 4294967296) = 4294967296 ^ j * (4294967296 * (s / 4294967296)) := by
      rw [Nat.mul_comm (s / 4294967296), Nat.mul_assoc]
    rw [h3, ← Nat.mul_add, h2]
  have h4 : 4294967296 ^ j * s = 4294967296 ^ j * x + 4294967296 ^ j * y + cc * 4294967296 ^ j := by
    rw [hs, Nat.mul_add, Nat.mul_add, Nat.mul_comm cc]
  omega

set_option maxHeartbeats 400000 in
theorem digits_any (a b : Int) (w : World) (ha : -9223372036854775808 ≤ a ∧ a ≤ 9223372036854775807) (hb : 0 ≤ b ∧ b ≤ 18446744073709551615) :
    Calls Try.prog 27 #[.agg #[.int .i64 a, .int .u64 b]] w (DigPost w (dig4 a b)) := by
  obtain ⟨H, hH⟩ : ∃ H, IntKind.u64.wrap (IntKind.u64.wrap a + 9223372036854775808) = H := ⟨_, rfl⟩
  have hH2 := hH.symm.trans (dig_wrap a ha)
  have hh0 : 0 ≤ H := by omega
  have hh1 : H ≤ 18446744073709551615 := by omega
  have hb0 := hb.1
  have HH := Lib.hid hH2
  clear hH2 ha
  go_enter Try.func27, Try.ntmps27
  go_wp2
  go_ret
  refine ⟨.slice (some ⟨w.heap.size + 1, 0, none⟩) 4 4, rfl, ?_, by go_grown⟩
  have e1 : b % 4294967296 = (((b % 4294967296).toNat : Nat) : Int) := by omega
  have e2 : b / 4294967296 = (((b / 4294967296).toNat : Nat) : Int) := by omega
  have e3 : H % 4294967296 = ((((a + 9223372036854775808) % 4294967296).toNat : Nat) : Int) := by rw [HH.out]; omega
  have e4 : H / 4294967296 = ((((a + 9223372036854775808) / 4294967296).toNat : Nat) : Int) := by rw [HH.out]; rw [HH.out] at hh0; omega
  rw [e1, e2, e3, e4]
  have h := rq_four (w := w.alloc (.cells #[.int .i64 a, .int .u64 b] 35)) (t := 23) (a := (b % 4294967296).toNat) (b := (b / 4294967296).toNat) (c := ((a + 9223372036854775808) % 4294967296).toNat) (d := ((a + 9223372036854775808) / 4294967296).toNat)
  rw [World.size_alloc] at h
  exact h

theorem old_cells {V w' : World} (h : Below V.heap.size V w') : (∀ b o, b < V.heap.size → w'.cell? ⟨b, o, none⟩ = V.cell? ⟨b, o, none⟩) ∧ (∀ b o, b < V.heap.size → w'.frozen? ⟨b, o, none⟩ = V.frozen? ⟨b, o, none⟩) :=
  ⟨fun b o hb => h.cell (p := ⟨b, o, none⟩) hb, fun b o hb => h.frozen (p := ⟨b, o, none⟩) hb⟩
theorem info_u64 : (Try.prog.info? 23).map (fun i => (i.zero, i.size, i.bytes)) = some (some (.int .u64 0), 1, 8) := by kernel_rfl
def uv (n : Nat) : Value := .int .u64 (n : Int)
def AddRel (wc : World) (X Y : List Nat) (z s i : Value) (wr : World) : Prop :=
  ∃ (j cc : Nat) (zs : List Nat), i = .int .i64 j ∧ s = .int .u64 cc ∧ cc ≤ 1 ∧ j ≤ 4 ∧ zs.length = j ∧ wr.ownsRow wc.heap.size 23 1 z zs.length (zs.map uv) ∧ (∀ x ∈ zs, x < 4294967296) ∧ Below wc.heap.size wc wr ∧
    le32 zs + cc * 4294967296 ^ j = le32 (X.take j) + le32 (Y.take j)
/-! The reference's Add. -/
def BothPost (w : World) (X Y : List Nat) (s t : Value) (wx : World) : Prop :=
  Rq wx s X ∧ Rq wx t Y ∧ Below w.heap.size w wx ∧ (wx.cell? ⟨w.heap.size + 2, 0, none⟩ = some (.int .i64 0) ∧ wx.cell? ⟨w.heap.size + 2, 1, none⟩ = some (.int .u64 0) ∧ w.heap.size + 2 < wx.heap.size) ∧
    wx.frozen? ⟨w.heap.size + 2, 0, none⟩ = false ∧ wx.frozen? ⟨w.heap.size + 2, 1, none⟩ = false

theorem un_drew {B : Nat} {V w' : World} (h : Below B V.drew w') : Below B V w' := ⟨h.os, h.tape, h.output, h.size, h.block⟩
theorem un_drewN {B : Nat} {V w' : World} {n : Nat} (h : Below B (V.drewN n) w') : Below B V w' := ⟨h.os, h.tape, h.output, h.size, h.block⟩
theorem two_stored {V : World} {g : Nat} {x y x' y' : Value} (h : V.cell? ⟨g, 0, none⟩ = some x' ∧ V.cell? ⟨g, 1, none⟩ = some y') :
    ((V.setCell ⟨g, 0, none⟩ x).setCell ⟨g, 1, none⟩ y).cell? ⟨g, 0, none⟩ = some x ∧ ((V.setCell ⟨g, 0, none⟩ x).setCell ⟨g, 1, none⟩ y).cell? ⟨g, 1, none⟩ = some y := by
  have h1 : (V.setCell ⟨g, 0, none⟩ x).cell? ⟨g, 1, none⟩ = some y' := (World.cell?_setCell_other V _ _ x (fun e => by injection e with _ e; cases e)).trans h.2
  exact ⟨(World.cell?_setCell_other _ _ _ y (fun e => by injection e with _ e; cases e)).trans (World.cell?_setCell_same V _ x h.1), World.cell?_setCell_same _ _ y h1⟩
/-- What the last carry and the highest digit tell of a sum. -/
theorem fin_over {a b c d : Int} {z0 z1 z2 z3 cc : Nat} {x y : Nat} (hx : (x : Int) = (a + 9223372036854775808) * 18446744073709551616 + b) (hy : (y : Int) = (c + 9223372036854775808) * 18446744073709551616 + d)
    (hb : 0 ≤ b ∧ b ≤ 18446744073709551615) (hd : 0 ≤ d ∧ d ≤ 18446744073709551615)
    (hz : z0 < 4294967296 ∧ z1 < 4294967296 ∧ z2 < 4294967296 ∧ z3 < 4294967296) (h : le32 [z0, z1, z2, z3] + cc * 340282366920938463463374607431768211456 = x + y) (hk : cc = 0 ∧ ¬ 2147483648 ≤ (z3 : Int) ∨ cc = 1 ∧ 2147483648 ≤ (z3 : Int)) :
    adHi a b c d = 0 ∧ adLo a b c d = 0 ∧ adE a b c d = 19 := by
  have hn : ¬ adOk a b c d = true := by
    unfold adOk adH
    rw [decide_eq_true_eq]
    simp only [le32] at h
    split <;> omega
  unfold adHi adLo adE
  rw [if_neg hn, if_neg hn, if_neg hn]
  exact ⟨rfl, rfl, rfl⟩
theorem fin_fine {a b c d : Int} {z0 z1 z2 z3 cc : Nat} {x y : Nat} (hx : (x : Int) = (a + 9223372036854775808) * 18446744073709551616 + b) (hy : (y : Int) = (c + 9223372036854775808) * 18446744073709551616 + d)
    (hb : 0 ≤ b ∧ b ≤ 18446744073709551615) (hd : 0 ≤ d ∧ d ≤ 18446744073709551615)
    (hz : z0 < 4294967296 ∧ z1 < 4294967296 ∧ z2 < 4294967296 ∧ z3 < 4294967296) (h : le32 [z0, z1, z2, z3] + cc * 340282366920938463463374607431768211456 = x + y) (hk : cc = 0 ∧ 2147483648 ≤ (z3 : Int) ∨ cc = 1 ∧ ¬ 2147483648 ≤ (z3 : Int)) :
    adHi a b c d = wrap64 ((z3 : Int) * 4294967296 + z2) ∧ adLo a b c d = (z1 : Int) * 4294967296 + z0 ∧ adE a b c d = 0 := by
  have hn : adOk a b c d = true := by
    unfold adOk adH
    rw [decide_eq_true_eq]
    simp only [le32] at h
    split <;> omega
  unfold adHi adLo adE
  rw [if_pos hn, if_pos hn, if_pos hn]
  simp only [le32] at h
  unfold adH wrap64
  refine ⟨?_, ?_, rfl⟩ <;> split <;> omega
theorem both_keep {w W y z : World} {X Y : List Nat} {x1 x2 : Value} (BW : Below w.heap.size w W) (c4 : W.cell? ⟨w.heap.size + 2, 0, none⟩ = some (.int .i64 0) ∧ W.cell? ⟨w.heap.size + 2, 1, none⟩ = some (.int .u64 0))
    (c5 : W.frozen? ⟨w.heap.size + 2, 0, none⟩ = false ∧ W.frozen? ⟨w.heap.size + 2, 1, none⟩ = false) (s2 : w.heap.size + 2 < W.heap.size) (b1 : Below W.heap.size W y) (b2 : Below y.heap.size y z)
    (q1 : Rq z x1 X) (q2 : Rq z x2 Y) : BothPost w X Y x1 x2 z := by
  have bz : Below W.heap.size W z := b1.trans (b2.mono b1.size)
  exact ⟨q1, q2, BW.trans (bz.mono BW.size), ⟨(bz.cell (p := ⟨w.heap.size + 2, 0, none⟩) s2).trans c4.1, (bz.cell (p := ⟨w.heap.size + 2, 1, none⟩) s2).trans c4.2, Nat.lt_of_lt_of_le s2 bz.size⟩,
    (bz.frozen (p := ⟨w.heap.size + 2, 0, none⟩) s2).trans c5.1, (bz.frozen (p := ⟨w.heap.size + 2, 1, none⟩) s2).trans c5.2⟩

set_option maxRecDepth 100000 in
set_option maxHeartbeats 1000000 in
theorem refAdd_any (a b c d : Int) (w : World) (ha : -9223372036854775808 ≤ a ∧ a ≤ 9223372036854775807) (hb : 0 ≤ b ∧ b ≤ 18446744073709551615) (hc : -9223372036854775808 ≤ c ∧ c ≤ 9223372036854775807) (hd : 0 ≤ d ∧ d ≤ 18446744073709551615) :
    Calls Try.prog 16 #[.agg #[.int .i64 a, .int .u64 b], .agg #[.int .i64 c, .int .u64 d]] w (WPost w (adHi a b c d) (adLo a b c d) (adE a b c d)) := by
  obtain ⟨X, hX⟩ : ∃ X, X = dig4 a b := ⟨_, rfl⟩
  obtain ⟨Y, hY⟩ : ∃ Y, Y = dig4 c d := ⟨_, rfl⟩
  have D1 : Hid (∀ V : World, Calls Try.prog 27 #[.agg #[.int .i64 a, .int .u64 b]] V (DigPost V X)) := fun V => by rw [hX]; exact digits_any a b V ha hb
  have D2 : Hid (∀ V : World, Calls Try.prog 27 #[.agg #[.int .i64 c, .int .u64 d]] V (DigPost V Y)) := fun V => by rw [hY]; exact digits_any c d V hc hd
  have HX : Hid (X.length = 4 ∧ (∀ x ∈ X, x < 4294967296) ∧ ((le32 X : Nat) : Int) = (a + 9223372036854775808) * 18446744073709551616 + b) := by rw [hX]; exact dig4_val a b ha hb
  have HY : Hid (Y.length = 4 ∧ (∀ x ∈ Y, x < 4294967296) ∧ ((le32 Y : Nat) : Int) = (c + 9223372036854775808) * 18446744073709551616 + d) := by rw [hY]; exact dig4_val c d hc hd
  clear hX hY
  have HA := Lib.hid ha
  have HB := Lib.hid hb
  have HC := Lib.hid hc
  have HD := Lib.hid hd
  clear ha hb hc hd
  go_enter Try.func16, Try.ntmps16
  go_wp2_with (fail)
  obtain ⟨W, hW⟩ : ∃ W, W = ((w.alloc (.cells #[.int .i64 a, .int .u64 b] 35)).alloc (.cells #[.int .i64 c, .int .u64 d] 35)).alloc (.cells #[.int .i64 0, .int .u64 0] 35) := ⟨_, rfl⟩
  rw [← hW]
  have c0 : W.cell? ⟨w.heap.size, 0, none⟩ = some (.int .i64 a) := by rw [hW]; simp [go_sem]
  have c1 : W.cell? ⟨w.heap.size, 1, none⟩ = some (.int .u64 b) := by rw [hW]; simp [go_sem]
  have c2 : W.cell? ⟨w.heap.size + 1, 0, none⟩ = some (.int .i64 c) := by rw [hW]; simp [go_sem]
  have c3 : W.cell? ⟨w.heap.size + 1, 1, none⟩ = some (.int .u64 d) := by rw [hW]; simp [go_sem]
  have c4 : Hid (W.cell? ⟨w.heap.size + 2, 0, none⟩ = some (.int .i64 0) ∧ W.cell? ⟨w.heap.size + 2, 1, none⟩ = some (.int .u64 0)) := by rw [hW]; exact ⟨by simp [go_sem], by simp [go_sem]⟩
  have c5 : Hid (W.frozen? ⟨w.heap.size + 2, 0, none⟩ = false ∧ W.frozen? ⟨w.heap.size + 2, 1, none⟩ = false) := by rw [hW]; exact ⟨by simp [go_sem], by simp [go_sem]⟩
  have s0 : w.heap.size < W.heap.size := by rw [hW]; simp; omega
  have s1 : w.heap.size + 1 < W.heap.size := by rw [hW]; simp [go_sem]
  have s2 : w.heap.size + 2 < W.heap.size := by rw [hW]; simp [go_sem]
  have BW : Below w.heap.size w W := by rw [hW]; go_grown
  clear hW
  go_cut [6, 7] (fun s t wx => BothPost w X Y s t wx)
  case first =>
    go_region_with (first
      | (go_at_call_of 27 (Value.agg #[Value.int IntKind.i64 a, Value.int IntKind.u64 b]); refine (D1.out _).mono ?_; rintro e y1 ⟨x1, rfl, q1, b1⟩; (try (have k2 := (b1.cell (p := ⟨w.heap.size + 1, 0, none⟩) (by exact s1)).trans c2)); (try (have k3 := (b1.cell (p := ⟨w.heap.size + 1, 1, none⟩) (by exact s1)).trans c3)))
      | (go_at_call_of 27 (Value.agg #[Value.int IntKind.i64 c, Value.int IntKind.u64 d]); refine (D2.out _).mono ?_; rintro e y2 ⟨x2, rfl, q2, b2⟩; (try (have k0 := (b2.cell (p := ⟨w.heap.size, 0, none⟩) (by exact s0)).trans c0)); (try (have k1 := (b2.cell (p := ⟨w.heap.size, 1, none⟩) (by exact s0)).trans c1))))
    all_goals
      go_wp2_with (fail)
      go_meet
      first
        | exact both_keep BW c4.out c5.out s2 b1 b2 (q1.below b2) q2
        | exact both_keep BW c4.out c5.out s2 (un_drew b1) b2 (q1.below b2) q2
        | exact both_keep BW c4.out c5.out s2 b1 (un_drew b2) (q1.below (un_drew b2)) q2
        | exact both_keep BW c4.out c5.out s2 (un_drew b1) (un_drew b2) (q1.below (un_drew b2)) q2
        | exact both_keep BW c4.out c5.out s2 b2 b1 q1 (q2.below b1)
        | exact both_keep BW c4.out c5.out s2 (un_drew b2) b1 q1 (q2.below b1)
        | exact both_keep BW c4.out c5.out s2 b2 (un_drew b1) q1 (q2.below (un_drew b1))
        | exact both_keep BW c4.out c5.out s2 (un_drew b2) (un_drew b1) q1 (q2.below (un_drew b1))
        | trace_state
  case rest =>
    obtain ⟨⟨g1, e1, rfl, r1, r2, r3, r4⟩, ⟨g2, e2, rfl, t1, t2, t3, t4⟩, BX, KX, k7, k8⟩ := hcut
    have hX4 := HX.out.1
    have hY4 := HY.out.1
    rw [hX4] at r1
    rw [hY4] at t1
    rw [hX4, hY4]
    obtain ⟨i0, hi, hz0, hz1, hz2⟩ := info_parts info_u64
    have R4 := Lib.hid r4
    have T4 := Lib.hid t4
    have H7 := Lib.hid (And.intro KX (And.intro k7 k8))
    unfold maxLen at r2 t2
    clear r4 t4 KX k7 k8 hX4 hY4
    go_wp2_with (fail)
    go_loopw [8, 9, 10] (fun z s i wr => AddRel wc X Y z s i wr) (fun _ _ i _ => 4 - (intOf i).toNat)
    case atStart => exact ⟨0, 0, [], rfl, rfl, by omega, by omega, rfl, World.ownsRow_nil _ _ _ _, fun x hx => by simp at hx, Below.refl _ _, by simp [le32]⟩
    case round =>
      obtain ⟨j, cc, zs, rfl, rfl, hcc, hj, hzl, own, hzb, bl, heq⟩ := hrel
      by_cases hlt : j < 4
      · have jx : j < X.length := by have := HX.out.1; omega
        have jy : j < Y.length := by have := HY.out.1; omega
        have x1 := R4.out j jx
        have y1 := T4.out j jy
        have xb := HX.out.2.1 X[j] (List.getElem_mem _)
        have yb := HY.out.2.1 Y[j] (List.getElem_mem _)
        have xe : X[j]? = some X[j] := List.getElem?_eq_getElem _
        have ye : Y[j]? = some Y[j] := List.getElem?_eq_getElem _
        obtain ⟨x, hx⟩ : ∃ x, x = X[j] := ⟨_, rfl⟩
        obtain ⟨y, hy⟩ : ∃ y, y = Y[j] := ⟨_, rfl⟩
        rw [← hx] at x1 xb xe
        rw [← hy] at y1 yb ye
        have x2 := (bl.cell (p := ⟨g1, j, none⟩) r3).trans x1
        have y2 := (bl.cell (p := ⟨g2, j, none⟩) t3).trans y1
        have XE := Lib.hid xe
        have YE := Lib.hid ye
        have HZ := Lib.hid hzl
        have HE := Lib.hid heq
        have HB := Lib.hid hzb
        clear x1 y1 xe ye hx hy hzl heq hzb jx jy
        go_wp2_with (fail)
        go_quiet (fail)
        go_wp2_with (at_builtin
                     refine wpList_append_one _ _ _ rfl _ _ _ rfl wc.heap.size 23 i0 (.int .u64 0) 8 Try.underlying52 hi hz0 hz1 hz2 rfl rfl u8 zs.length (zs.map uv) rfl (by exact own) rfl ?_ ?_ ?_ ?_
                     · have := HZ.out; unfold maxLen; omega
                     · have := HZ.out; omega
                     · exact bl.size
                     intro v2 w2 own2 b2)
        go_roundw
        case rel =>
          have e : Value.int .u64 (((x : Int) + y + cc) % 4294967296) = uv ((x + y + cc) % 4294967296) := congrArg (Value.int .u64) (by omega)
          rw [e] at own2
          have hs := add_step HX.out.1 HY.out.1 hlt XE.out YE.out HZ.out HE.out
          refine ⟨j + 1, (x + y + cc) / 4294967296, zs ++ [(x + y + cc) % 4294967296], by go_num, by go_num, by omega, by omega, by simp [HZ.out], ?_, ?_, bl.trans (un_drewN b2), hs⟩
          · rw [List.length_append, List.map_append]; exact own2
          · intro q hq
            rcases List.mem_append.1 hq with hq | hq
            · exact HB.out q hq
            · have : q = (x + y + cc) % 4294967296 := by simpa using hq
              omega
        case measure => simp [intOf]; omega
      · obtain rfl : j = 4 := by omega
        obtain ⟨z0, z1, z2, z3, rfl⟩ : ∃ z0 z1 z2 z3, zs = [z0, z1, z2, z3] := by
          match zs, hzl with
          | [z0, z1, z2, z3], _ => exact ⟨z0, z1, z2, z3, rfl⟩
        have hz : z0 < 4294967296 ∧ z1 < 4294967296 ∧ z2 < 4294967296 ∧ z3 < 4294967296 := ⟨hzb z0 (by simp), hzb z1 (by simp), hzb z2 (by simp), hzb z3 (by simp)⟩
        have q0 := hz.1
        have q1 := hz.2.1
        have q2 := hz.2.2.1
        have q3 := hz.2.2.2
        have hval : Hid (le32 [z0, z1, z2, z3] + cc * 340282366920938463463374607431768211456 = le32 X + le32 Y) := by
          have e1 : X.take 4 = X := List.take_of_length_le (by have := HX.out.1; omega)
          have e2 : Y.take 4 = Y := List.take_of_length_le (by have := HY.out.1; omega)
          rw [e1, e2] at heq
          exact heq
        obtain ⟨g, cp, hu8, hg1, hg2⟩ := own.form (by simp)
        subst hu8
        have w0 : wr.cell? ⟨g, 0, none⟩ = some (.int .u64 (z0 : Int)) := by simpa [uv] using own.cellAt (g := g) 0 (by simp)
        have w1 : wr.cell? ⟨g, 1, none⟩ = some (.int .u64 (z1 : Int)) := by simpa [uv] using own.cellAt (g := g) 1 (by simp)
        have w2 : wr.cell? ⟨g, 2, none⟩ = some (.int .u64 (z2 : Int)) := by simpa [uv] using own.cellAt (g := g) 2 (by simp)
        have w3 : wr.cell? ⟨g, 3, none⟩ = some (.int .u64 (z3 : Int)) := by simpa [uv] using own.cellAt (g := g) 3 (by simp)
        have kk0 : wr.cell? ⟨w.heap.size + 1 + 1, 0, none⟩ = some (.int .i64 0) := (bl.cell (p := ⟨w.heap.size + 2, 0, none⟩) H7.out.1.2.2).trans H7.out.1.1
        have kk1 : wr.cell? ⟨w.heap.size + 1 + 1, 1, none⟩ = some (.int .u64 0) := (bl.cell (p := ⟨w.heap.size + 2, 1, none⟩) H7.out.1.2.2).trans H7.out.1.2.1
        have fz0 : wr.frozen? ⟨w.heap.size + 1 + 1, 0, none⟩ = false := (bl.frozen (p := ⟨w.heap.size + 2, 0, none⟩) H7.out.1.2.2).trans H7.out.2.1
        have fz1 : wr.frozen? ⟨w.heap.size + 1 + 1, 1, none⟩ = false := (bl.frozen (p := ⟨w.heap.size + 2, 1, none⟩) H7.out.1.2.2).trans H7.out.2.2
        have st0 : ∀ x y, ((wr.setCell ⟨w.heap.size + 1 + 1, 0, none⟩ x).setCell ⟨w.heap.size + 1 + 1, 1, none⟩ y).cell? ⟨w.heap.size + 1 + 1, 0, none⟩ = some x := fun x y => (two_stored ⟨kk0, kk1⟩).1
        have st1 : ∀ x y, ((wr.setCell ⟨w.heap.size + 1 + 1, 0, none⟩ x).setCell ⟨w.heap.size + 1 + 1, 1, none⟩ y).cell? ⟨w.heap.size + 1 + 1, 1, none⟩ = some y := fun x y => (two_stored ⟨kk0, kk1⟩).2
        have BF := BX.trans (bl.mono BX.size)
        have OF := Lib.hid own.1
        clear heq hzl hzb own hj r1 r2 t1 t2 c0 c1 c2 c3 hi hz0 hz1 hz2
        by_cases hc0 : cc = 0
        · subst hc0
          by_cases hh : 2147483648 ≤ (z3 : Int)
          · have FIN := Lib.hid (fin_fine HX.out.2.2 HY.out.2.2 HB.out HD.out hz hval.out (by omega))
            go_wp2_with (fail)
            go_still_tail 18, (by kernel_rfl)
            change wpList _ _ _ _ _ wr.drew
            go_wp2
            refine bodyPost_ret (v := .tuple #[.agg #[.int .i64 (wrap64 ((z3 : Int) * 4294967296 + z2)), .int .u64 ((z1 : Int) * 4294967296 + z0)], .int .i64 0]) (by simp [results, Try.results16, go_sem, st0, st1]) rfl ?_
            obtain ⟨r1, r2, r3⟩ := FIN.out
            rw [r1, r2, r3]
            exact ⟨rfl, ((BF.setCell (by show w.heap.size ≤ w.heap.size + 1 + 1; omega) _).setCell (by show w.heap.size ≤ w.heap.size + 1 + 1; omega) _).drew⟩
          · have FIN := Lib.hid (fin_over HX.out.2.2 HY.out.2.2 HB.out HD.out hz hval.out (by omega))
            go_wp2_with (fail)
            refine bodyPost_ret (v := .tuple #[.agg #[.int .i64 0, .int .u64 0], .int .i64 19]) (by simp [results, Try.results16, go_sem, st0, st1]) rfl ?_
            obtain ⟨r1, r2, r3⟩ := FIN.out
            rw [r1, r2, r3]
            exact ⟨rfl, (BF.setCell (by show w.heap.size ≤ w.heap.size + 1 + 1; omega) _).setCell (by show w.heap.size ≤ w.heap.size + 1 + 1; omega) _⟩
        · obtain rfl : cc = 1 := by omega
          by_cases hh : 2147483648 ≤ (z3 : Int)
          · have FIN := Lib.hid (fin_over HX.out.2.2 HY.out.2.2 HB.out HD.out hz hval.out (by omega))
            go_wp2_with (fail)
            refine bodyPost_ret (v := .tuple #[.agg #[.int .i64 0, .int .u64 0], .int .i64 19]) (by simp [results, Try.results16, go_sem, st0, st1]) rfl ?_
            obtain ⟨r1, r2, r3⟩ := FIN.out
            rw [r1, r2, r3]
            exact ⟨rfl, (BF.setCell (by show w.heap.size ≤ w.heap.size + 1 + 1; omega) _).setCell (by show w.heap.size ≤ w.heap.size + 1 + 1; omega) _⟩
          · have FIN := Lib.hid (fin_fine HX.out.2.2 HY.out.2.2 HB.out HD.out hz hval.out (by omega))
            go_wp2_with (fail)
            go_still_tail 18, (by kernel_rfl)
            change wpList _ _ _ _ _ wr.drew
            go_wp2
            refine bodyPost_ret (v := .tuple #[.agg #[.int .i64 ((z3 : Int) * 4294967296 + z2), .int .u64 ((z1 : Int) * 4294967296 + z0)], .int .i64 0]) (by simp [results, Try.results16, go_sem, st0, st1]) rfl ?_
            obtain ⟨r1, r2, r3⟩ := FIN.out
            rw [r1, r2, r3, IntWalk.wrap64_in _ (by omega)]
            exact ⟨rfl, ((BF.setCell (by show w.heap.size ≤ w.heap.size + 1 + 1; omega) _).setCell (by show w.heap.size ≤ w.heap.size + 1 + 1; omega) _).drew⟩
end Go.Proofs.Ytenmdogalnhbjaa
