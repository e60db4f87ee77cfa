/- Part 21 of the words that the laws share: SlTake, SlHead, JrHead. No condition of its own: each theorem says its own. -/
import Derived.Test.YtbodiioemohenaaDoorPart17
import Derived.Test.YtbodiioemohenaaDoorPart14
import Derived.Test.YtbodiioemohenaaDoorPart2
import Derived.Test.YtbodiioemohenaaDoorPart9
import Derived.Test.YtbodiioemohenaaDoorPart4
import Derived.OwnWalk
import Derived.Deep.Cut

/- What the developers' slot reads off a sector: a number off the bytes that are left. Conditions: bytes enough, and one more. -/
namespace Go.Proofs.YtbodiioemohenaaDoor
open Go.RowKit

/-- Bytes in a block from a place on, as a slice. -/
structure At8 (w : World) (b off c : Nat) (xs : List UInt8) : Prop where
  le : xs.length ≤ c
  cap : c ≤ maxLen
  lt : b < w.heap.size
  cell : ∀ i (h : i < xs.length), w.cell? ⟨b, off + i, none⟩ = some (bv xs[i])
theorem At8.rd {w : World} {b off c : Nat} {xs : List UInt8} (h : At8 w b off c xs) : Rd w (.slice (some ⟨b, off, none⟩) xs.length c) xs := .inr ⟨b, off, c, rfl, h.lt, h.le, h.cap, h.cell⟩
theorem At8.of {w : World} {v : Value} {xs : List UInt8} (h : Rd w v xs) (h0 : 0 < xs.length) : ∃ b off c, v = .slice (some ⟨b, off, none⟩) xs.length c ∧ At8 w b off c xs := by
  rcases h with ⟨A, c, _, _, _, rfl⟩ | ⟨b, off, c, h1, h2, h3, h4, h5⟩
  · cases h0
  · exact ⟨b, off, c, h1, h3, h4, h2, h5⟩
theorem At8.keep {w w' : World} {b off c : Nat} {xs : List UInt8} (h : At8 w b off c xs) (hs : w.heap.size ≤ w'.heap.size) (hk : w'.heap[b]? = w.heap[b]?) : At8 w' b off c xs :=
  ⟨h.le, h.cap, Nat.lt_of_lt_of_le h.lt hs, fun i hi => (World.cell?_of_block (a := ⟨b, off + i, none⟩) hk).trans (h.cell i hi)⟩
theorem At8.drop {w : World} {b off c : Nat} {xs : List UInt8} (h : At8 w b off c xs) (k : Nat) : At8 w b (off + k) (c - k) (xs.drop k) := by
  have h1 := h.le
  have h2 := h.cap
  refine ⟨by rw [List.length_drop]; omega, by omega, h.lt, fun i hi => ?_⟩
  rw [List.length_drop] at hi
  have h3 := h.cell (k + i) (by omega)
  rw [List.getElem_drop, ← h3, Nat.add_assoc]
set_option maxRecDepth 100000 in
set_option maxHeartbeats 1000000 in
theorem take_any (w : World) (X b off c : Nat) (T : TypeId) (xs : List UInt8) (k : Nat) (hX : Blk w X T [.slice (some ⟨b, off, none⟩) xs.length c]) (h : At8 w b off c xs) (h1 : 1 ≤ k) (h8 : k ≤ 8) (hk : k < xs.length) :
    Calls Tryd.prog 92 #[.int .i64 (k : Int), .pointer (some ⟨X, 0, none⟩)] w fun e w' => e = .returned (.int .u64 (numB (xs.take k) : Nat)) ∧ Blk w' X T [.slice (some ⟨b, off + k, none⟩) (xs.drop k).length (c - k)] ∧ Sole w w' X := by
  have c0 : w.cell? ⟨X, 0, none⟩ = some (.slice (some ⟨b, off, none⟩) xs.length c) := by rw [hX.cell]; rfl
  have f0 : w.frozen? ⟨X, 0, none⟩ = false := hX.free 0
  have HX := Lib.hid hX
  have HG := Lib.hid (get_yes _ xs k w h.rd h1 h8 (Nat.le_of_lt hk))
  have hc := h.le
  have hm := h.cap
  have g1 : (k : Int) ≤ xs.length := by omega
  have g2 : (k : Int) < c := by omega
  have e1 : (xs.drop k).length = xs.length - k := List.length_drop
  have HE := Lib.hid e1
  unfold maxLen at hm
  obtain ⟨n, hn⟩ : ∃ n, n = numB (xs.take k) := ⟨_, rfl⟩
  rw [← hn] at HG ⊢
  clear hX h h1 h8 e1 hn
  go_enter Tryd.func92, Tryd.ntmps92
  go_wp2_with (fail)
  refine HG.out.mono ?_
  rintro e w1 ⟨rfl, rfl⟩
  go_wp2_with (fail)
  go_ret
  rw [HE.out]
  exact ⟨rfl, HX.out.set 0 _, Sole.setCell _ _ _ _⟩
end Go.Proofs.YtbodiioemohenaaDoor

/- What stands ahead of a sector's part, and the part. Condition: a sector of 128 bytes. -/
namespace Go.Proofs.YtbodiioemohenaaDoor
open Go.RowKit

/-- What stands ahead of a part. -/
structure Hd where
  n : Nat
  i : Nat
  c : Nat
  l : Nat
  s : Nat
def Hd.v (h : Hd) : List Value := [.int .u64 (h.n : Int), .int .i64 (h.i : Int), .int .i64 (h.c : Int), .int .i64 (h.l : Int), .int .u64 (h.s : Int)]
def hd0 : Hd := ⟨0, 0, 0, 0, 0⟩
def hdOf (x : List UInt8) : Hd := ⟨numB (x.take 8), numB ((x.drop 8).take 2), numB ((x.drop 10).take 2), numB ((x.drop 12).take 4), numB ((x.drop 16).take 8)⟩
theorem numB_take_lt (x : List UInt8) (k : Nat) : numB (x.take k) < 256 ^ k := by
  refine Nat.lt_of_lt_of_le (numB_lt _) (Nat.pow_le_pow_right (by decide) ?_)
  rw [List.length_take]
  omega
theorem size_al (w : World) (o : Obj) : (w.alloc o).heap.size = w.heap.size + 1 := by simp
/-- headOf under way: what is left of the sector, the head so far. -/
structure HdS (w W : World) (b off c : Nat) (xs : List UInt8) (cs : List Value) : Prop where
  row : Blk W w.heap.size 23 [.slice (some ⟨b, off, none⟩) xs.length c]
  at8 : At8 W b off c xs
  res : Blk W (w.heap.size + 1) 98 hd0.v
  hd : Blk W (w.heap.size + 1 + 1) 98 cs
  below : Below w.heap.size w W
  old : b < w.heap.size
theorem HdS.take {w W : World} {b off c : Nat} {xs : List UInt8} {cs : List Value} (h : HdS w W b off c xs cs) (k : Nat) (h1 : 1 ≤ k) (h8 : k ≤ 8) (hk : k < xs.length) :
    Calls Tryd.prog 92 #[.int .i64 (k : Int), .pointer (some ⟨w.heap.size, 0, none⟩)] W fun e W' => e = .returned (.int .u64 (numB (xs.take k) : Nat)) ∧ HdS w W' b (off + k) (c - k) (xs.drop k) cs := by
  refine (take_any W _ b off c _ xs k h.row h.at8 h1 h8 hk).mono ?_
  rintro e W' ⟨rfl, h2, h3⟩
  have h4 := h.old
  exact ⟨rfl, h2, (h.at8.keep (Nat.le_of_eq h3.size.symm) (h3.other b (by omega))).drop k, h3.blk h.res (by omega), h3.blk h.hd (by omega), h.below.trans h3.below, h4⟩
theorem HdS.set {w W : World} {b off c : Nat} {xs : List UInt8} {cs : List Value} (h : HdS w W b off c xs cs) (j : Nat) (v : Value) : HdS w (W.setCell ⟨w.heap.size + 1 + 1, j, none⟩ v) b off c xs (cs.set j v) := by
  have h3 := Sole.setCell W (w.heap.size + 1 + 1) j v
  have h4 := h.old
  exact ⟨h3.blk h.row (by omega), h.at8.keep (Nat.le_of_eq h3.size.symm) (h3.other b (by omega)), h3.blk h.res (by omega), h.hd.set j v, h.below.trans (h3.below.mono (by omega)), h4⟩
theorem hd_info : (Tryd.prog.info? 98).map (·.size) = some 5 := by kernel_rfl
theorem numB_i64 {n k : Nat} (h : n < 256 ^ k) (hk : k ≤ 4) : IntKind.i64.wrap (n : Int) = (n : Int) := by
  have h2 : 256 ^ k ≤ 256 ^ 4 := Nat.pow_le_pow_right (by decide) hk
  exact IntWalk.i64_in _ (by omega)
set_option maxRecDepth 100000 in
set_option maxHeartbeats 4000000 in
theorem headOf_any (w : World) (v : Value) (xs : List UInt8) (h : Rd w v xs) (hl : xs.length = 128) :
    Calls Tryd.prog 79 #[v] w fun e w' => ∃ u, e = .returned (.tuple #[.agg (hdOf xs).v.toArray, u]) ∧ Rd w' u (xs.drop 24) ∧ u.ownBlock = v.ownBlock ∧ Below w.heap.size w w' := by
  obtain ⟨b, off, c, rfl, hat⟩ := At8.of h (by omega)
  have hmf : ∀ (fn : Fn) (first cap : Array Value) (w : World), (Instr.makeFunc fn first cap).run Tryd.prog w = .ok (.func fn first cap) w := fun _ _ _ _ => rfl
  obtain ⟨n0, hn0⟩ : ∃ n, n = numB (xs.take 8) := ⟨_, rfl⟩
  obtain ⟨n1, hn1⟩ : ∃ n, n = numB ((xs.drop 8).take 2) := ⟨_, rfl⟩
  obtain ⟨n2, hn2⟩ : ∃ n, n = numB ((xs.drop 10).take 2) := ⟨_, rfl⟩
  obtain ⟨n3, hn3⟩ : ∃ n, n = numB ((xs.drop 12).take 4) := ⟨_, rfl⟩
  obtain ⟨n4, hn4⟩ : ∃ n, n = numB ((xs.drop 16).take 8) := ⟨_, rfl⟩
  have i1 := numB_i64 (hn1 ▸ numB_take_lt (xs.drop 8) 2) (by decide)
  have i2 := numB_i64 (hn2 ▸ numB_take_lt (xs.drop 10) 2) (by decide)
  have i3 := numB_i64 (hn3 ▸ numB_take_lt (xs.drop 12) 4) (by decide)
  have HV : Hid ((hdOf xs).v = [.int .u64 (n0 : Int), .int .i64 (n1 : Int), .int .i64 (n2 : Int), .int .i64 (n3 : Int), .int .u64 (n4 : Int)]) := Lib.hid (by rw [hn0, hn1, hn2, hn3, hn4]; rfl)
  obtain ⟨W0, hW0⟩ : ∃ W : World, W = ((w.alloc (.cells #[.slice (some ⟨b, off, none⟩) xs.length c] 23)).alloc (.cells #[.int .u64 0, .int .i64 0, .int .i64 0, .int .i64 0, .int .u64 0] 98)).alloc (.cells #[.int .u64 0, .int .i64 0, .int .i64 0, .int .i64 0, .int .u64 0] 98) := ⟨_, rfl⟩
  have S0 : HdS w W0 b off c xs hd0.v := by
    have e1 := Blk.made w 23 [.slice (some ⟨b, off, none⟩) xs.length c]
    have e2 := Blk.made (w.alloc (.cells #[.slice (some ⟨b, off, none⟩) xs.length c] 23)) 98 hd0.v
    have e3 := Blk.made ((w.alloc (.cells #[.slice (some ⟨b, off, none⟩) xs.length c] 23)).alloc (.cells hd0.v.toArray 98)) 98 hd0.v
    have e4 : Below w.heap.size w W0 := by
      rw [hW0]
      exact (((Below.refl _ _).alloc (Nat.le_refl _) _).alloc (by simp) _).alloc (by simp; omega) _
    refine ⟨?_, hat.keep e4.size (e4.block b hat.lt), ?_, ?_, e4, hat.lt⟩
    · rw [hW0]
      exact (e1.alloc _).alloc _
    · rw [hW0]
      have h5 := e2.alloc (.cells hd0.v.toArray 98)
      rw [size_al] at h5
      exact h5
    · rw [hW0]
      rw [size_al, size_al] at e3
      exact e3
  have K0 := Lib.hid (S0.take 8 (by decide) (by decide) (by omega))
  rw [← hn0] at K0
  have HL := Lib.hid hl
  have HN1 := Lib.hid hn1
  have HN2 := Lib.hid hn2
  have HN3 := Lib.hid hn3
  have HN4 := Lib.hid hn4
  clear h hl hat S0 hn0 hn1 hn2 hn3 hn4
  go_enter Tryd.func79, Tryd.ntmps79
  go_wp2_with (fail)
  rw [← hW0]
  clear hW0
  refine K0.out.mono ?_
  rintro e W1 ⟨rfl, S1⟩
  have c1 := S1.hd.cell 0
  have f1 := S1.hd.free 0
  have T1 := Lib.hid (S1.set 0 (.int .u64 (n0 : Int)))
  obtain ⟨V1, hV1⟩ : ∃ W : World, W = W1.setCell ⟨w.heap.size + 1 + 1, 0, none⟩ (.int .u64 (n0 : Int)) := ⟨_, rfl⟩
  rw [← hV1] at T1
  have K1 := Lib.hid (T1.out.take 2 (by decide) (by decide) (by rw [List.length_drop, HL.out]; decide))
  rw [← HN1.out] at K1
  clear S1
  go_wp2_with (fail)
  rw [← hV1]
  clear hV1 c1 f1
  refine K1.out.mono ?_
  rintro e W2 ⟨rfl, S2⟩
  have c2 := S2.hd.cell 1
  have f2 := S2.hd.free 1
  have T2 := Lib.hid (S2.set 1 (.int .i64 (n1 : Int)))
  rw [List.drop_drop] at T2
  obtain ⟨V2, hV2⟩ : ∃ W : World, W = W2.setCell ⟨w.heap.size + 1 + 1, 1, none⟩ (.int .i64 (n1 : Int)) := ⟨_, rfl⟩
  rw [← hV2] at T2
  have K2 := Lib.hid (T2.out.take 2 (by decide) (by decide) (by rw [List.length_drop, HL.out]; decide))
  rw [← HN2.out] at K2
  clear S2
  go_wp2_with (fail)
  rw [← hV2]
  clear hV2 c2 f2
  refine K2.out.mono ?_
  rintro e W3 ⟨rfl, S3⟩
  have c3 := S3.hd.cell 2
  have f3 := S3.hd.free 2
  have T3 := Lib.hid (S3.set 2 (.int .i64 (n2 : Int)))
  rw [List.drop_drop] at T3
  obtain ⟨V3, hV3⟩ : ∃ W : World, W = W3.setCell ⟨w.heap.size + 1 + 1, 2, none⟩ (.int .i64 (n2 : Int)) := ⟨_, rfl⟩
  rw [← hV3] at T3
  have K3 := Lib.hid (T3.out.take 4 (by decide) (by decide) (by rw [List.length_drop, HL.out]; decide))
  rw [← HN3.out] at K3
  clear S3
  go_wp2_with (fail)
  rw [← hV3]
  clear hV3 c3 f3
  refine K3.out.mono ?_
  rintro e W4 ⟨rfl, S4⟩
  have c4 := S4.hd.cell 3
  have f4 := S4.hd.free 3
  have T4 := Lib.hid (S4.set 3 (.int .i64 (n3 : Int)))
  rw [List.drop_drop] at T4
  obtain ⟨V4, hV4⟩ : ∃ W : World, W = W4.setCell ⟨w.heap.size + 1 + 1, 3, none⟩ (.int .i64 (n3 : Int)) := ⟨_, rfl⟩
  rw [← hV4] at T4
  have K4 := Lib.hid (T4.out.take 8 (by decide) (by decide) (by rw [List.length_drop, HL.out]; decide))
  rw [← HN4.out] at K4
  clear S4
  go_wp2_with (fail)
  rw [← hV4]
  clear hV4 c4 f4
  refine K4.out.mono ?_
  rintro e W5 ⟨rfl, S5⟩
  have c5 := S5.hd.cell 4
  have f5 := S5.hd.free 4
  have T5 := Lib.hid (S5.set 4 (.int .u64 (n4 : Int)))
  rw [List.drop_drop] at T5
  obtain ⟨V5, hV5⟩ : ∃ W : World, W = W5.setCell ⟨w.heap.size + 1 + 1, 4, none⟩ (.int .u64 (n4 : Int)) := ⟨_, rfl⟩
  rw [← hV5] at T5
  clear S5
  go_upto_region 8 with (fail)
  rw [← hV5]
  clear hV5 c5 f5
  have S5 := T5.out
  have g0 : V5.cell? ⟨w.heap.size + 1 + 1, 0, none⟩ = some (.int .u64 (n0 : Int)) := by rw [S5.hd.cell]; rfl
  have g1 : V5.cell? ⟨w.heap.size + 1 + 1, 1, none⟩ = some (.int .i64 (n1 : Int)) := by rw [S5.hd.cell]; rfl
  have g2 : V5.cell? ⟨w.heap.size + 1 + 1, 2, none⟩ = some (.int .i64 (n2 : Int)) := by rw [S5.hd.cell]; rfl
  have g3 : V5.cell? ⟨w.heap.size + 1 + 1, 3, none⟩ = some (.int .i64 (n3 : Int)) := by rw [S5.hd.cell]; rfl
  have g4 : V5.cell? ⟨w.heap.size + 1 + 1, 4, none⟩ = some (.int .u64 (n4 : Int)) := by rw [S5.hd.cell]; rfl
  have gx : V5.cell? ⟨w.heap.size, 0, none⟩ = some (.slice (some ⟨b, off + 8 + 2 + 2 + 4 + 8, none⟩) (xs.drop (8 + 2 + 2 + 4 + 8)).length (c - 8 - 2 - 2 - 4 - 8)) := by rw [S5.row.cell]; rfl
  have r0 := S5.res.cell 0
  have r1 := S5.res.cell 1
  have r2 := S5.res.cell 2
  have r3 := S5.res.cell 3
  have r4 := S5.res.cell 4
  have z0 := S5.res.free 0
  have z1 := S5.res.free 1
  have z2 := S5.res.free 2
  have z3 := S5.res.free 3
  have z4 := S5.res.free 4
  clear S5
  go_region
  have R5 := Lib.hid ((((((T5.out.res.set 0 (.int .u64 (n0 : Int))).set 1 (.int .i64 (n1 : Int))).set 2 (.int .i64 (n2 : Int))).set 3 (.int .i64 (n3 : Int))).set 4 (.int .u64 (n4 : Int))).drew)
  have B5 := Lib.hid ((((((Sole.setCell V5 (w.heap.size + 1) 0 (.int .u64 (n0 : Int))).trans (Sole.setCell _ _ 1 (.int .i64 (n1 : Int)))).trans (Sole.setCell _ _ 2 (.int .i64 (n2 : Int)))).trans (Sole.setCell _ _ 3 (.int .i64 (n3 : Int)))).trans (Sole.setCell _ _ 4 (.int .u64 (n4 : Int)))))
  obtain ⟨V6, hV6⟩ : ∃ W : World, W = (((((V5.setCell ⟨w.heap.size + 1, 0, none⟩ (.int .u64 (n0 : Int))).setCell ⟨w.heap.size + 1, 1, none⟩ (.int .i64 (n1 : Int))).setCell ⟨w.heap.size + 1, 2, none⟩ (.int .i64 (n2 : Int))).setCell ⟨w.heap.size + 1, 3, none⟩ (.int .i64 (n3 : Int))).setCell ⟨w.heap.size + 1, 4, none⟩ (.int .u64 (n4 : Int))) := ⟨_, rfl⟩
  rw [← hV6] at R5 B5 ⊢
  clear hV6 g0 g1 g2 g3 g4 gx r0 r1 r2 r3 r4 z0 z1 z2 z3 z4
  go_wp2_with (fail)
  have R6 : Blk V6.drew (w.heap.size + 1) 98 (hdOf xs).v := by
    rw [HV.out]
    exact R5.out
  refine bodyPost_ret (results_blk_tmp (ty := 98) Tryd.results79 _ _ (w.heap.size + 1) 98 (hdOf xs).v _ _ rfl rfl R6 Tryd.underlying98 rfl hd_info) rfl ?_
  have h8 : Below w.heap.size V5 V6 := B5.out.below.mono (Nat.le_succ _)
  refine ⟨_, rfl, ?_, rfl, (T5.out.below.trans h8).drew⟩
  have h7 := (T5.out.at8.keep (Nat.le_of_eq B5.out.size.symm) (B5.out.other b (by have := T5.out.old; omega))).rd
  rw [List.length_drop] at h7
  exact h7
end Go.Proofs.YtbodiioemohenaaDoor

/- What the developers' journal reads off a sector: what stands ahead of a record's part, and the part. Condition: a sector of 128 bytes. -/
namespace Go.Proofs.YtbodiioemohenaaDoor
open Go.RowKit

set_option maxRecDepth 100000 in
set_option maxHeartbeats 1000000 in
theorem takeJ_any (w : World) (X b off c : Nat) (T : TypeId) (xs : List UInt8) (k : Nat) (hX : Blk w X T [.slice (some ⟨b, off, none⟩) xs.length c]) (h : At8 w b off c xs) (h1 : 1 ≤ k) (h8 : k ≤ 8) (hk : k < xs.length) :
    Calls Tryd.prog 85 #[.int .i64 (k : Int), .pointer (some ⟨X, 0, none⟩)] w fun e w' => e = .returned (.int .u64 (numB (xs.take k) : Nat)) ∧ Blk w' X T [.slice (some ⟨b, off + k, none⟩) (xs.drop k).length (c - k)] ∧ Sole w w' X := by
  have c0 : w.cell? ⟨X, 0, none⟩ = some (.slice (some ⟨b, off, none⟩) xs.length c) := by rw [hX.cell]; rfl
  have f0 : w.frozen? ⟨X, 0, none⟩ = false := hX.free 0
  have HX := Lib.hid hX
  have HG := Lib.hid (get_yes _ xs k w h.rd h1 h8 (Nat.le_of_lt hk))
  have hc := h.le
  have hm := h.cap
  have g1 : (k : Int) ≤ xs.length := by omega
  have g2 : (k : Int) < c := by omega
  have e1 : (xs.drop k).length = xs.length - k := List.length_drop
  have HE := Lib.hid e1
  unfold maxLen at hm
  obtain ⟨n, hn⟩ : ∃ n, n = numB (xs.take k) := ⟨_, rfl⟩
  rw [← hn] at HG ⊢
  clear hX h h1 h8 e1 hn
  go_enter Tryd.func85, Tryd.ntmps85
  go_wp2_with (fail)
  refine HG.out.mono ?_
  rintro e w1 ⟨rfl, rfl⟩
  go_wp2_with (fail)
  go_ret
  rw [HE.out]
  exact ⟨rfl, HX.out.set 0 _, Sole.setCell _ _ _ _⟩
/-- What stands ahead of a part. -/
structure Hj where
  n : Nat
  u : Nat
  i : Nat
  c : Nat
  l : Nat
def Hj.v (h : Hj) : List Value := [.int .u64 (h.n : Int), .int .i64 (h.u : Int), .int .i64 (h.i : Int), .int .i64 (h.c : Int), .int .i64 (h.l : Int)]
def hj0 : Hj := ⟨0, 0, 0, 0, 0⟩
def hjOf (x : List UInt8) : Hj := ⟨numB (x.take 8), numB ((x.drop 8).take 4), numB ((x.drop 12).take 2), numB ((x.drop 14).take 2), numB ((x.drop 16).take 4)⟩
/-- headOf under way: what is left of the sector, the head so far. -/
structure HjS (w W : World) (b off c : Nat) (xs : List UInt8) (cs : List Value) : Prop where
  row : Blk W w.heap.size 23 [.slice (some ⟨b, off, none⟩) xs.length c]
  at8 : At8 W b off c xs
  res : Blk W (w.heap.size + 1) 75 hj0.v
  hd : Blk W (w.heap.size + 1 + 1) 75 cs
  below : Below w.heap.size w W
  old : b < w.heap.size
theorem HjS.take {w W : World} {b off c : Nat} {xs : List UInt8} {cs : List Value} (h : HjS w W b off c xs cs) (k : Nat) (h1 : 1 ≤ k) (h8 : k ≤ 8) (hk : k < xs.length) :
    Calls Tryd.prog 85 #[.int .i64 (k : Int), .pointer (some ⟨w.heap.size, 0, none⟩)] W fun e W' => e = .returned (.int .u64 (numB (xs.take k) : Nat)) ∧ HjS w W' b (off + k) (c - k) (xs.drop k) cs := by
  refine (takeJ_any W _ b off c _ xs k h.row h.at8 h1 h8 hk).mono ?_
  rintro e W' ⟨rfl, h2, h3⟩
  have h4 := h.old
  exact ⟨rfl, h2, (h.at8.keep (Nat.le_of_eq h3.size.symm) (h3.other b (by omega))).drop k, h3.blk h.res (by omega), h3.blk h.hd (by omega), h.below.trans h3.below, h4⟩
theorem HjS.set {w W : World} {b off c : Nat} {xs : List UInt8} {cs : List Value} (h : HjS w W b off c xs cs) (j : Nat) (v : Value) : HjS w (W.setCell ⟨w.heap.size + 1 + 1, j, none⟩ v) b off c xs (cs.set j v) := by
  have h3 := Sole.setCell W (w.heap.size + 1 + 1) j v
  have h4 := h.old
  exact ⟨h3.blk h.row (by omega), h.at8.keep (Nat.le_of_eq h3.size.symm) (h3.other b (by omega)), h3.blk h.res (by omega), h.hd.set j v, h.below.trans (h3.below.mono (by omega)), h4⟩
theorem hj_info : (Tryd.prog.info? 75).map (·.size) = some 5 := by kernel_rfl
set_option maxRecDepth 100000 in
set_option maxHeartbeats 4000000 in
theorem headOfJ_any (w : World) (v : Value) (xs : List UInt8) (h : Rd w v xs) (hl : xs.length = 128) :
    Calls Tryd.prog 64 #[v] w fun e w' => ∃ u, e = .returned (.tuple #[.agg (hjOf xs).v.toArray, u]) ∧ Rd w' u (xs.drop 20) ∧ u.ownBlock = v.ownBlock ∧ Below w.heap.size w w' := by
  obtain ⟨b, off, c, rfl, hat⟩ := At8.of h (by omega)
  have hmf : ∀ (fn : Fn) (first cap : Array Value) (w : World), (Instr.makeFunc fn first cap).run Tryd.prog w = .ok (.func fn first cap) w := fun _ _ _ _ => rfl
  obtain ⟨n0, hn0⟩ : ∃ n, n = numB (xs.take 8) := ⟨_, rfl⟩
  obtain ⟨n1, hn1⟩ : ∃ n, n = numB ((xs.drop 8).take 4) := ⟨_, rfl⟩
  obtain ⟨n2, hn2⟩ : ∃ n, n = numB ((xs.drop 12).take 2) := ⟨_, rfl⟩
  obtain ⟨n3, hn3⟩ : ∃ n, n = numB ((xs.drop 14).take 2) := ⟨_, rfl⟩
  obtain ⟨n4, hn4⟩ : ∃ n, n = numB ((xs.drop 16).take 4) := ⟨_, rfl⟩
  have i1 := numB_i64 (hn1 ▸ numB_take_lt (xs.drop 8) 4) (by decide)
  have i2 := numB_i64 (hn2 ▸ numB_take_lt (xs.drop 12) 2) (by decide)
  have i3 := numB_i64 (hn3 ▸ numB_take_lt (xs.drop 14) 2) (by decide)
  have i4 := numB_i64 (hn4 ▸ numB_take_lt (xs.drop 16) 4) (by decide)
  have HV : Hid ((hjOf xs).v = [.int .u64 (n0 : Int), .int .i64 (n1 : Int), .int .i64 (n2 : Int), .int .i64 (n3 : Int), .int .i64 (n4 : Int)]) := Lib.hid (by rw [hn0, hn1, hn2, hn3, hn4]; rfl)
  obtain ⟨W0, hW0⟩ : ∃ W : World, W = ((w.alloc (.cells #[.slice (some ⟨b, off, none⟩) xs.length c] 23)).alloc (.cells #[.int .u64 0, .int .i64 0, .int .i64 0, .int .i64 0, .int .i64 0] 75)).alloc (.cells #[.int .u64 0, .int .i64 0, .int .i64 0, .int .i64 0, .int .i64 0] 75) := ⟨_, rfl⟩
  have S0 : HjS w W0 b off c xs hj0.v := by
    have e1 := Blk.made w 23 [.slice (some ⟨b, off, none⟩) xs.length c]
    have e2 := Blk.made (w.alloc (.cells #[.slice (some ⟨b, off, none⟩) xs.length c] 23)) 75 hj0.v
    have e3 := Blk.made ((w.alloc (.cells #[.slice (some ⟨b, off, none⟩) xs.length c] 23)).alloc (.cells hj0.v.toArray 75)) 75 hj0.v
    have e4 : Below w.heap.size w W0 := by
      rw [hW0]
      exact (((Below.refl _ _).alloc (Nat.le_refl _) _).alloc (by simp) _).alloc (by simp; omega) _
    refine ⟨?_, hat.keep e4.size (e4.block b hat.lt), ?_, ?_, e4, hat.lt⟩
    · rw [hW0]
      exact (e1.alloc _).alloc _
    · rw [hW0]
      have h5 := e2.alloc (.cells hj0.v.toArray 75)
      rw [size_al] at h5
      exact h5
    · rw [hW0]
      rw [size_al, size_al] at e3
      exact e3
  have K0 := Lib.hid (S0.take 8 (by decide) (by decide) (by omega))
  rw [← hn0] at K0
  have HL := Lib.hid hl
  have HN1 := Lib.hid hn1
  have HN2 := Lib.hid hn2
  have HN3 := Lib.hid hn3
  have HN4 := Lib.hid hn4
  clear h hl hat S0 hn0 hn1 hn2 hn3 hn4
  go_enter Tryd.func64, Tryd.ntmps64
  go_wp2_with (fail)
  rw [← hW0]
  clear hW0
  refine K0.out.mono ?_
  rintro e W1 ⟨rfl, S1⟩
  have c1 := S1.hd.cell 0
  have f1 := S1.hd.free 0
  have T1 := Lib.hid (S1.set 0 (.int .u64 (n0 : Int)))
  obtain ⟨V1, hV1⟩ : ∃ W : World, W = W1.setCell ⟨w.heap.size + 1 + 1, 0, none⟩ (.int .u64 (n0 : Int)) := ⟨_, rfl⟩
  rw [← hV1] at T1
  have K1 := Lib.hid (T1.out.take 4 (by decide) (by decide) (by rw [List.length_drop, HL.out]; decide))
  rw [← HN1.out] at K1
  clear S1
  go_wp2_with (fail)
  rw [← hV1]
  clear hV1 c1 f1
  refine K1.out.mono ?_
  rintro e W2 ⟨rfl, S2⟩
  have c2 := S2.hd.cell 1
  have f2 := S2.hd.free 1
  have T2 := Lib.hid (S2.set 1 (.int .i64 (n1 : Int)))
  rw [List.drop_drop] at T2
  obtain ⟨V2, hV2⟩ : ∃ W : World, W = W2.setCell ⟨w.heap.size + 1 + 1, 1, none⟩ (.int .i64 (n1 : Int)) := ⟨_, rfl⟩
  rw [← hV2] at T2
  have K2 := Lib.hid (T2.out.take 2 (by decide) (by decide) (by rw [List.length_drop, HL.out]; decide))
  rw [← HN2.out] at K2
  clear S2
  go_wp2_with (fail)
  rw [← hV2]
  clear hV2 c2 f2
  refine K2.out.mono ?_
  rintro e W3 ⟨rfl, S3⟩
  have c3 := S3.hd.cell 2
  have f3 := S3.hd.free 2
  have T3 := Lib.hid (S3.set 2 (.int .i64 (n2 : Int)))
  rw [List.drop_drop] at T3
  obtain ⟨V3, hV3⟩ : ∃ W : World, W = W3.setCell ⟨w.heap.size + 1 + 1, 2, none⟩ (.int .i64 (n2 : Int)) := ⟨_, rfl⟩
  rw [← hV3] at T3
  have K3 := Lib.hid (T3.out.take 2 (by decide) (by decide) (by rw [List.length_drop, HL.out]; decide))
  rw [← HN3.out] at K3
  clear S3
  go_wp2_with (fail)
  rw [← hV3]
  clear hV3 c3 f3
  refine K3.out.mono ?_
  rintro e W4 ⟨rfl, S4⟩
  have c4 := S4.hd.cell 3
  have f4 := S4.hd.free 3
  have T4 := Lib.hid (S4.set 3 (.int .i64 (n3 : Int)))
  rw [List.drop_drop] at T4
  obtain ⟨V4, hV4⟩ : ∃ W : World, W = W4.setCell ⟨w.heap.size + 1 + 1, 3, none⟩ (.int .i64 (n3 : Int)) := ⟨_, rfl⟩
  rw [← hV4] at T4
  have K4 := Lib.hid (T4.out.take 4 (by decide) (by decide) (by rw [List.length_drop, HL.out]; decide))
  rw [← HN4.out] at K4
  clear S4
  go_wp2_with (fail)
  rw [← hV4]
  clear hV4 c4 f4
  refine K4.out.mono ?_
  rintro e W5 ⟨rfl, S5⟩
  have c5 := S5.hd.cell 4
  have f5 := S5.hd.free 4
  have T5 := Lib.hid (S5.set 4 (.int .i64 (n4 : Int)))
  rw [List.drop_drop] at T5
  obtain ⟨V5, hV5⟩ : ∃ W : World, W = W5.setCell ⟨w.heap.size + 1 + 1, 4, none⟩ (.int .i64 (n4 : Int)) := ⟨_, rfl⟩
  rw [← hV5] at T5
  clear S5
  go_upto_region 8 with (fail)
  rw [← hV5]
  clear hV5 c5 f5
  have S5 := T5.out
  have g0 : V5.cell? ⟨w.heap.size + 1 + 1, 0, none⟩ = some (.int .u64 (n0 : Int)) := by rw [S5.hd.cell]; rfl
  have g1 : V5.cell? ⟨w.heap.size + 1 + 1, 1, none⟩ = some (.int .i64 (n1 : Int)) := by rw [S5.hd.cell]; rfl
  have g2 : V5.cell? ⟨w.heap.size + 1 + 1, 2, none⟩ = some (.int .i64 (n2 : Int)) := by rw [S5.hd.cell]; rfl
  have g3 : V5.cell? ⟨w.heap.size + 1 + 1, 3, none⟩ = some (.int .i64 (n3 : Int)) := by rw [S5.hd.cell]; rfl
  have g4 : V5.cell? ⟨w.heap.size + 1 + 1, 4, none⟩ = some (.int .i64 (n4 : Int)) := by rw [S5.hd.cell]; rfl
  have gx : V5.cell? ⟨w.heap.size, 0, none⟩ = some (.slice (some ⟨b, off + 8 + 4 + 2 + 2 + 4, none⟩) (xs.drop (8 + 4 + 2 + 2 + 4)).length (c - 8 - 4 - 2 - 2 - 4)) := by rw [S5.row.cell]; rfl
  have r0 := S5.res.cell 0
  have r1 := S5.res.cell 1
  have r2 := S5.res.cell 2
  have r3 := S5.res.cell 3
  have r4 := S5.res.cell 4
  have z0 := S5.res.free 0
  have z1 := S5.res.free 1
  have z2 := S5.res.free 2
  have z3 := S5.res.free 3
  have z4 := S5.res.free 4
  clear S5
  go_region
  have R5 := Lib.hid ((((((T5.out.res.set 0 (.int .u64 (n0 : Int))).set 1 (.int .i64 (n1 : Int))).set 2 (.int .i64 (n2 : Int))).set 3 (.int .i64 (n3 : Int))).set 4 (.int .i64 (n4 : Int))).drew)
  have B5 := Lib.hid ((((((Sole.setCell V5 (w.heap.size + 1) 0 (.int .u64 (n0 : Int))).trans (Sole.setCell _ _ 1 (.int .i64 (n1 : Int)))).trans (Sole.setCell _ _ 2 (.int .i64 (n2 : Int)))).trans (Sole.setCell _ _ 3 (.int .i64 (n3 : Int)))).trans (Sole.setCell _ _ 4 (.int .i64 (n4 : Int)))))
  obtain ⟨V6, hV6⟩ : ∃ W : World, W = (((((V5.setCell ⟨w.heap.size + 1, 0, none⟩ (.int .u64 (n0 : Int))).setCell ⟨w.heap.size + 1, 1, none⟩ (.int .i64 (n1 : Int))).setCell ⟨w.heap.size + 1, 2, none⟩ (.int .i64 (n2 : Int))).setCell ⟨w.heap.size + 1, 3, none⟩ (.int .i64 (n3 : Int))).setCell ⟨w.heap.size + 1, 4, none⟩ (.int .i64 (n4 : Int))) := ⟨_, rfl⟩
  rw [← hV6] at R5 B5 ⊢
  clear hV6 g0 g1 g2 g3 g4 gx r0 r1 r2 r3 r4 z0 z1 z2 z3 z4
  go_wp2_with (fail)
  have R6 : Blk V6.drew (w.heap.size + 1) 75 (hjOf xs).v := by
    rw [HV.out]
    exact R5.out
  refine bodyPost_ret (results_blk_tmp (ty := 75) Tryd.results64 _ _ (w.heap.size + 1) 75 (hjOf xs).v _ _ rfl rfl R6 Tryd.underlying75 rfl hj_info) rfl ?_
  have h8 : Below w.heap.size V5 V6 := B5.out.below.mono (Nat.le_succ _)
  refine ⟨_, rfl, ?_, rfl, (T5.out.below.trans h8).drew⟩
  have h7 := (T5.out.at8.keep (Nat.le_of_eq B5.out.size.symm) (B5.out.other b (by have := T5.out.old; omega))).rd
  rw [List.length_drop] at h7
  exact h7
end Go.Proofs.YtbodiioemohenaaDoor
