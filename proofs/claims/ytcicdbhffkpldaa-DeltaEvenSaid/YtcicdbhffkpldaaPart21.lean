/- Part 21 of the words that the laws share: DtTel. No condition of its own: each theorem says its own. -/
import Derived.Test.YtcicdbhffkpldaaPart3
import Derived.Test.YtcicdbhffkpldaaPart12
import Derived.Test.YtcicdbhffkpldaaPart20
import Derived.Test.YtcicdbhffkpldaaPart16
import Derived.Deep.RegionHeld3
import Derived.Deep.Cut

/- The developers' delta.track: what is told of a piece, and heard of it. Condition: a track in a block of its own. -/
namespace Go.Proofs.Ytcicdbhffkpldaa
open Go.RowKit

/-- A number as a track holds it. -/
def u64 (z : Int) : Int := IntKind.u64.wrap z
theorem u64_sub (a b : Int) : IntKind.u64.wrap (u64 a - u64 b) = u64 (wr64 (a - b)) := by
  unfold u64 wr64
  rw [IntKind.wrap_u64, IntKind.wrap_u64, IntKind.wrap_u64, IntKind.wrap_u64, IntKind.wrap_i64]
  omega
theorem u64_add (a b : Int) : IntKind.u64.wrap (u64 a + u64 b) = u64 (wr64 (a + b)) := by
  unfold u64 wr64
  rw [IntKind.wrap_u64, IntKind.wrap_u64, IntKind.wrap_u64, IntKind.wrap_u64, IntKind.wrap_i64]
  omega
theorem u64_back (a : Int) : IntKind.i64.wrap (u64 a) = wr64 a := by
  unfold u64 wr64
  rw [IntKind.wrap_u64, IntKind.wrap_i64, IntKind.wrap_i64]
  omega
theorem wr64_wr (a : Int) : wr64 (wr64 a) = wr64 a := by
  unfold wr64
  rw [IntKind.wrap_i64, IntKind.wrap_i64]
  omega
/-- A track. -/
def trk (a d v : Int) : List Value := [.int .u64 (u64 a), .int .u64 (u64 d), .int .u64 (u64 v)]
theorem trk_zero : trk 0 0 0 = [.int .u64 0, .int .u64 0, .int .u64 0] := rfl
set_option maxRecDepth 100000 in
set_option maxHeartbeats 2000000 in
theorem tell_any (p : Pc) (a d v : Int) (Y : Nat) (w : World) (hY : Blk w Y 61 (trk a d v)) :
    Calls Try.prog 34 #[.pointer (some ⟨Y, 0, none⟩), .agg #[.string p.s, .int .i64 p.t, .int .i64 p.v, .int .u64 (p.n : Int), .int .u16 (p.o : Int)]] w fun e w' => e = .returned (.tuple #[.int .i64 (wr64 (wr64 (p.t - a) - d)), .int .i64 (wr64 (p.v - v))]) ∧ Blk w' Y 61 (trk p.t (wr64 (p.t - a)) p.v) ∧ Chg (fun k => k = Y) w w' := by
  have hlt := hY.lt
  obtain ⟨A, hA⟩ : ∃ A, A = u64 a := ⟨_, rfl⟩
  obtain ⟨D, hD⟩ : ∃ D, D = u64 d := ⟨_, rfl⟩
  obtain ⟨V0, hV⟩ : ∃ V, V = u64 v := ⟨_, rfl⟩
  obtain ⟨A', hA'⟩ : ∃ A', A' = u64 p.t := ⟨_, rfl⟩
  obtain ⟨V', hV'⟩ : ∃ V', V' = u64 p.v := ⟨_, rfl⟩
  obtain ⟨D', hD'⟩ : ∃ D', D' = u64 (wr64 (p.t - a)) := ⟨_, rfl⟩
  have e1 : IntKind.u64.wrap (A' - A) = D' := by rw [hA, hA', hD', u64_sub]
  have e2 : IntKind.u64.wrap p.t = A' := by rw [hA']; rfl
  have e3 : IntKind.u64.wrap p.v = V' := by rw [hV']; rfl
  obtain ⟨r1, hr1⟩ : ∃ r, r = wr64 (wr64 (p.t - a) - d) := ⟨_, rfl⟩
  obtain ⟨r2, hr2⟩ : ∃ r, r = wr64 (p.v - v) := ⟨_, rfl⟩
  have e4 : IntKind.i64.wrap (IntKind.u64.wrap (D' - D)) = r1 := by rw [hD', hD, u64_sub, u64_back, hr1, wr64_wr]
  have e5 : IntKind.i64.wrap (IntKind.u64.wrap (V' - V0)) = r2 := by rw [hV', hV, u64_sub, u64_back, hr2, wr64_wr]
  have y0 : w.cell? ⟨Y, 0, none⟩ = some (.int .u64 A) := by rw [hY.cell, hA]; rfl
  have y1 : w.cell? ⟨Y, 1, none⟩ = some (.int .u64 D) := by rw [hY.cell, hD]; rfl
  have y2 : w.cell? ⟨Y, 2, none⟩ = some (.int .u64 V0) := by rw [hY.cell, hV]; rfl
  have HR : Hid (Blk w Y 61 [.int .u64 A, .int .u64 D, .int .u64 V0]) := Lib.hid (by rw [hA, hD, hV]; exact hY)
  have HE : Hid (trk p.t (wr64 (p.t - a)) p.v = [.int .u64 A', .int .u64 D', .int .u64 V']) := Lib.hid (by rw [hA', hD', hV']; rfl)
  rw [← hr1, ← hr2, HE.out]
  obtain ⟨W1, hW1⟩ : ∃ V, V = w.alloc (.cells #[.string p.s, .int .i64 p.t, .int .i64 p.v, .int .u64 (p.n : Int), .int .u16 (p.o : Int)] 46) := ⟨_, rfl⟩
  obtain ⟨W2, hW2⟩ : ∃ V, V = W1.alloc (.cells #[.int .u64 A, .int .u64 D, .int .u64 V0] 61) := ⟨_, rfl⟩
  have hs1 : W1.heap.size = w.heap.size + 1 := by rw [hW1]; exact World.size_alloc _ _
  have P2 : Hid (Blk W2 w.heap.size 46 [.string p.s, .int .i64 p.t, .int .i64 p.v, .int .u64 (p.n : Int), .int .u16 (p.o : Int)]) := Lib.hid (by rw [hW2, hW1]; exact (Blk.made w _ _).alloc _)
  have X2 : Hid (Blk W2 W1.heap.size 61 [.int .u64 A, .int .u64 D, .int .u64 V0]) := Lib.hid (by rw [hW2]; exact Blk.made W1 _ _)
  have Y1 : Hid (Blk W1 Y 61 [.int .u64 A, .int .u64 D, .int .u64 V0]) := Lib.hid (by rw [hW1]; exact HR.out.alloc _)
  have Y2 : Hid (Blk W2 Y 61 [.int .u64 A, .int .u64 D, .int .u64 V0]) := Lib.hid (by rw [hW2, hW1]; exact (HR.out.alloc _).alloc _)
  have C2 : Hid (Below w.heap.size w W2) := Lib.hid (by rw [hW2, hW1]; exact ((Below.refl _ w).alloc (Nat.le_refl _) _).alloc (by simp) _)
  have HLT : Hid (Y < w.heap.size ∧ W1.heap.size = w.heap.size + 1) := Lib.hid ⟨hlt, hs1⟩
  have HW1 := Lib.hid hW1
  have HW2 := Lib.hid hW2
  have S2 : Hid (W2.cell? ⟨w.heap.size, 1, none⟩ = some (.int .i64 p.t) ∧ W2.cell? ⟨w.heap.size, 2, none⟩ = some (.int .i64 p.v)) := Lib.hid ⟨P2.out.cell 1, P2.out.cell 2⟩
  have KD : ∀ V : World, (V.cell? ⟨w.heap.size, 1, none⟩ = some (.int .i64 p.t) ∧ V.cell? ⟨w.heap.size, 2, none⟩ = some (.int .i64 p.v)) → (V.drew.cell? ⟨w.heap.size, 1, none⟩ = some (.int .i64 p.t) ∧ V.drew.cell? ⟨w.heap.size, 2, none⟩ = some (.int .i64 p.v)) := fun V h => h
  have KS : ∀ (V : World) (j : Nat) (u : Value), (V.cell? ⟨w.heap.size, 1, none⟩ = some (.int .i64 p.t) ∧ V.cell? ⟨w.heap.size, 2, none⟩ = some (.int .i64 p.v)) → ((V.setCell ⟨Y, j, none⟩ u).cell? ⟨w.heap.size, 1, none⟩ = some (.int .i64 p.t) ∧ (V.setCell ⟨Y, j, none⟩ u).cell? ⟨w.heap.size, 2, none⟩ = some (.int .i64 p.v)) := fun V j u h => by
    have hk := (Sole.setCell V Y j u).other w.heap.size (by omega)
    exact ⟨(World.cell?_of_block (a := ⟨w.heap.size, 1, none⟩) hk).trans h.1, (World.cell?_of_block (a := ⟨w.heap.size, 2, none⟩) hk).trans h.2⟩
  clear hY hA hD hV hA' hV' hD' hr1 hr2 hW1 hW2 hs1 hlt y0 y1 y2 HR
  go_enter Try.func34, Try.ntmps34
  go_upto_region 1 with (fail)
  rw [← HW1.out]
  have y0 : W1.cell? ⟨Y, 0, none⟩ = some (.int .u64 A) := Y1.out.cell 0
  have y1 : W1.cell? ⟨Y, 1, none⟩ = some (.int .u64 D) := Y1.out.cell 1
  have y2 : W1.cell? ⟨Y, 2, none⟩ = some (.int .u64 V0) := Y1.out.cell 2
  clear HW1 Y1
  go_upto_region 2 with (fail)
  rw [← HW2.out]
  clear HW2 y0 y1 y2
  have f0 : W2.frozen? ⟨Y, 0, none⟩ = false := Y2.out.free 0
  have c0 : W2.cell? ⟨Y, 0, none⟩ = some (.int .u64 A) := Y2.out.cell 0
  have f2 : W2.frozen? ⟨Y, 2, none⟩ = false := Y2.out.free 2
  have c2 : W2.cell? ⟨Y, 2, none⟩ = some (.int .u64 V0) := Y2.out.cell 2
  refine wp_region_noPanic ?_
  refine wp_region_held_drew (S := fun V => V.cell? ⟨w.heap.size, 1, none⟩ = some (.int .i64 p.t) ∧ V.cell? ⟨w.heap.size, 2, none⟩ = some (.int .i64 p.v)) (by kernel_rfl) (KD _ S2.out) (fun hHeld => ?_)
  refine take_put (i := 0) (oi := _) (v := ?_) 10 rfl rfl (by kernel_rfl) (by kernel_rfl) (by kernel_rfl) (fun _ _ _ h => h) (Or.inl ⟨by rfl, ?hy0⟩) (by assumption) ?_
  case hy0 => ((intro W hSw); (try dsimp only at hSw); go_simp; try (with_reducible rfl))
  simp only [List.set_cons_zero, List.set_cons_succ]
  refine take_put (i := 1) (oi := _) (v := ?_) 11 rfl rfl (by kernel_rfl) (by kernel_rfl) (by kernel_rfl) (fun _ _ _ h => h) (Or.inl ⟨by rfl, ?hy1⟩) (by assumption) ?_
  case hy1 => ((intro W hSw); (try dsimp only at hSw); go_simp; try (with_reducible rfl))
  simp only [List.set_cons_zero, List.set_cons_succ]
  refine take_put (i := 2) (oi := _) (v := ?_) 12 rfl rfl (by kernel_rfl) (by kernel_rfl) (by kernel_rfl) (fun _ _ _ h => h) (Or.inl ⟨by rfl, ?hy2⟩) (by assumption) ?_
  case hy2 => ((intro W hSw); (try dsimp only at hSw); go_simp; try (with_reducible rfl))
  simp only [List.set_cons_zero, List.set_cons_succ]
  refine take_put (i := 3) (oi := _) (v := ?_) 13 rfl rfl (by kernel_rfl) (by kernel_rfl) (by kernel_rfl) (fun _ _ _ h => h) (Or.inl ⟨by rfl, ?hy3⟩) (by assumption) ?_
  case hy3 => ((intro W hSw); (try dsimp only at hSw); go_simp; try (with_reducible rfl))
  simp only [List.set_cons_zero, List.set_cons_succ]
  refine take_put (i := 4) (oi := _) (v := ?_) 14 rfl rfl (by kernel_rfl) (by kernel_rfl) (by kernel_rfl) (fun _ _ _ h => h) (Or.inl ⟨by rfl, ?hy4⟩) (by assumption) ?_
  case hy4 => ((intro W hSw); (try dsimp only at hSw); go_simp; try (with_reducible rfl))
  simp only [List.set_cons_zero, List.set_cons_succ]
  refine take_put (i := 5) (oi := _) (v := ?_) 15 rfl rfl (by kernel_rfl) (by kernel_rfl) (by kernel_rfl) (fun _ _ _ h => h) (Or.inl ⟨by rfl, ?hy5⟩) (by assumption) ?_
  case hy5 => ((intro W hSw); (try dsimp only at hSw); go_simp; try (with_reducible rfl))
  simp only [List.set_cons_zero, List.set_cons_succ]
  refine take_put (i := 6) (oi := _) (v := ?_) 16 rfl rfl (by kernel_rfl) (by kernel_rfl) (by kernel_rfl) (fun _ _ _ h => h) (Or.inl ⟨by rfl, ?hy6⟩) (by assumption) ?_
  case hy6 => ((intro W hSw); (try dsimp only at hSw); go_simp; try (with_reducible rfl))
  simp only [List.set_cons_zero, List.set_cons_succ]
  refine take_put (i := 7) (oi := _) (v := ?_) 17 rfl rfl (by kernel_rfl) (by kernel_rfl) (by kernel_rfl) (fun _ _ _ h => h) (Or.inl ⟨by rfl, ?hy7⟩) (by assumption) ?_
  case hy7 => ((intro W hSw); (try dsimp only at hSw); go_simp; try (with_reducible rfl))
  simp only [List.set_cons_zero, List.set_cons_succ]
  refine take_put (i := 8) (oi := _) (v := ?_) 18 rfl rfl (by kernel_rfl) (by kernel_rfl) (by kernel_rfl) (fun _ _ _ h => h) (Or.inl ⟨by rfl, ?hy8⟩) (by assumption) ?_
  case hy8 => ((intro W hSw); (try dsimp only at hSw); go_simp; try (with_reducible rfl))
  simp only [List.set_cons_zero, List.set_cons_succ]
  refine take_put (i := 9) (oi := _) (v := ?_) 19 rfl rfl (by kernel_rfl) (by kernel_rfl) (by kernel_rfl) (fun _ _ _ h => h) (Or.inl ⟨by rfl, ?hy9⟩) (by assumption) ?_
  case hy9 => ((intro W hSw); (try dsimp only at hSw); go_simp; try (with_reducible rfl))
  simp only [List.set_cons_zero, List.set_cons_succ]
  refine wpAnyH_ready (rs := [10]) (by kernel_rfl) (by simp) ?_
  refine AllReadyH.cons (o := _) rfl (fun K hK => ?_) AllReadyH.nil
  go_simp
  refine hK.out _ _ (KD _ (KS _ _ _ S2.out)) (fun hHeld => ?_)
  clear hK K
  try simp only [Act.put, List.setIfInBounds_toArray, List.set_cons_zero, List.set_cons_succ]
  obtain ⟨W3, hW3⟩ : ∃ V, V = (W2.setCell ⟨Y, 0, none⟩ (.int .u64 A')).drew := ⟨_, rfl⟩
  have S3 : Hid (W3.cell? ⟨w.heap.size, 1, none⟩ = some (.int .i64 p.t) ∧ W3.cell? ⟨w.heap.size, 2, none⟩ = some (.int .i64 p.v)) := Lib.hid (by rw [hW3]; exact KD _ (KS _ _ _ S2.out))
  have Y3 : Hid (Blk W3 Y 61 [.int .u64 A', .int .u64 D, .int .u64 V0]) := Lib.hid (by rw [hW3]; exact (Y2.out.set 0 _).drew)
  have L3 : Hid (Sole W2 W3 Y) := Lib.hid (by rw [hW3]; exact ⟨below_drewN (Sole.setCell W2 Y 0 _).below 1, (Sole.setCell W2 Y 0 _).size, (Sole.setCell W2 Y 0 _).other⟩)
  rw [← hW3]
  clear hW3 c0 f0 c2 f2
  have c2 : W3.cell? ⟨Y, 2, none⟩ = some (.int .u64 V0) := Y3.out.cell 2
  have f2 : W3.frozen? ⟨Y, 2, none⟩ = false := Y3.out.free 2
  have s3 := S3.out
  refine take_put (i := 11) (oi := _) (v := ?_) 20 rfl rfl (by kernel_rfl) (by kernel_rfl) (by kernel_rfl) (fun _ _ _ h => h) (Or.inl ⟨by rfl, ?hy11⟩) (by assumption) ?_
  case hy11 => ((intro W hSw); (try dsimp only at hSw); go_simp; try (with_reducible rfl))
  simp only [List.set_cons_zero, List.set_cons_succ]
  refine take_put (i := 12) (oi := _) (v := ?_) 21 rfl rfl (by kernel_rfl) (by kernel_rfl) (by kernel_rfl) (fun _ _ _ h => h) (Or.inl ⟨by rfl, ?hy12⟩) (by assumption) ?_
  case hy12 => ((intro W hSw); (try dsimp only at hSw); go_simp; try (with_reducible rfl))
  simp only [List.set_cons_zero, List.set_cons_succ]
  clear s3
  refine wpAnyH_ready (rs := [13]) (by kernel_rfl) (by simp) ?_
  refine AllReadyH.cons (o := _) rfl (fun K hK => ?_) AllReadyH.nil
  go_simp
  refine hK.out _ _ (KS _ _ _ S3.out) (fun hHeld => ?_)
  clear hK K
  try simp only [Act.put, List.setIfInBounds_toArray, List.set_cons_zero, List.set_cons_succ]
  refine wpAnyH_done (by kernel_rfl) ?_ _
  refine NoPanic.normal ?_
  obtain ⟨W4, hW4⟩ : ∃ V, V = W3.setCell ⟨Y, 2, none⟩ (.int .u64 V') := ⟨_, rfl⟩
  have Y4 : Hid (Blk W4 Y 61 [.int .u64 A', .int .u64 D, .int .u64 V']) := Lib.hid (by rw [hW4]; exact Y3.out.set 2 _)
  have L4 : Hid (Sole W2 W4 Y) := Lib.hid (by rw [hW4]; exact L3.out.trans (Sole.setCell W3 Y 2 _))
  have X4 : Hid (Blk W4 W1.heap.size 61 [.int .u64 A, .int .u64 D, .int .u64 V0]) := Lib.hid (L4.out.blk X2.out (by have := HLT.out; omega))
  rw [← hW4]
  clear hW4 c2 f2 S3 Y3 L3 S2 P2 X2 Y2
  have y0 : W4.cell? ⟨Y, 0, none⟩ = some (.int .u64 A') := Y4.out.cell 0
  have y1 : W4.cell? ⟨Y, 1, none⟩ = some (.int .u64 D) := Y4.out.cell 1
  have g1 : W4.frozen? ⟨Y, 1, none⟩ = false := Y4.out.free 1
  have x0 : W4.cell? ⟨W1.heap.size, 0, none⟩ = some (.int .u64 A) := X4.out.cell 0
  go_wp2_with (fail)
  refine wp_quiet_tail 8 (by kernel_rfl) (by kernel_rfl) (by kernel_rfl) (by kernel_rfl) (by kernel_rfl) (by kernel_rfl) (by kernel_rfl) (by kernel_rfl) ?_
  simp only [List.take_succ_cons, List.take_zero, List.drop_succ_cons, List.drop_zero]
  repeat (go_big_quiet_step (fail))
  refine wpQuiet_nil ?_
  intro wq hwq
  obtain ⟨nq, rfl⟩ := hwq
  go_upto_region 4 with (fail)
  obtain ⟨W5, hW5⟩ : ∃ V, V = (W4.drewN nq).setCell ⟨Y, 1, none⟩ (.int .u64 D') := ⟨_, rfl⟩
  have Y5 : Hid (Blk W5 Y 61 [.int .u64 A', .int .u64 D', .int .u64 V']) := Lib.hid (by rw [hW5]; exact (Y4.out.drewN nq).set 1 _)
  have L5 : Hid (Sole W2 W5 Y) := Lib.hid (by rw [hW5]; exact (show Sole W2 (W4.drewN nq) Y from ⟨below_drewN L4.out.below nq, L4.out.size, L4.out.other⟩).trans (Sole.setCell _ Y 1 _))
  have X5 : Hid (Blk W5 W1.heap.size 61 [.int .u64 A, .int .u64 D, .int .u64 V0]) := Lib.hid (by rw [hW5]; exact ((X4.out.drewN nq).other (by have := HLT.out; show ¬ (W1.heap.size = Y); omega) _))
  rw [← hW5]
  clear hW5 y0 y1 g1 x0 X4 Y4 L4
  have y1 : W5.cell? ⟨Y, 1, none⟩ = some (.int .u64 D') := Y5.out.cell 1
  have y2 : W5.cell? ⟨Y, 2, none⟩ = some (.int .u64 V') := Y5.out.cell 2
  have x1 : W5.cell? ⟨W1.heap.size, 1, none⟩ = some (.int .u64 D) := X5.out.cell 1
  have x2 : W5.cell? ⟨W1.heap.size, 2, none⟩ = some (.int .u64 V0) := X5.out.cell 2
  have HCH : Hid (∀ m, Blk (W5.drewN m) Y 61 [.int .u64 A', .int .u64 D', .int .u64 V'] ∧ Chg (fun k => k = Y) w (W5.drewN m)) := Lib.hid fun m => ⟨Y5.out.drewN m, Chg.drewN _ (⟨L5.out.below.os.trans C2.out.os, L5.out.below.tape.trans C2.out.tape, L5.out.below.output.trans C2.out.output, by rw [L5.out.size]; exact C2.out.size, fun k hk hne => (L5.out.other k hne).trans (C2.out.block k hk)⟩ : Chg (fun k => k = Y) w W5) m⟩
  go_wp2_with (fail)
  go_quiet (fail)
  go_wp2_with (fail)
  go_ret2
  exact ⟨rfl, HCH.out _⟩
set_option maxRecDepth 100000 in
set_option maxHeartbeats 2000000 in
theorem hear_any (x y a d v : Int) (Y : Nat) (w : World) (hY : Blk w Y 61 (trk a d v)) :
    Calls Try.prog 43 #[.pointer (some ⟨Y, 0, none⟩), .int .i64 x, .int .i64 y] w fun e w' => e = .returned (.tuple #[.int .i64 (wr64 (a + wr64 (d + x))), .int .i64 (wr64 (v + y))]) ∧ Blk w' Y 61 (trk (wr64 (a + wr64 (d + x))) (wr64 (d + x)) (wr64 (v + y))) ∧ Chg (fun k => k = Y) w w' := by
  have hlt := hY.lt
  obtain ⟨A, hA⟩ : ∃ A, A = u64 a := ⟨_, rfl⟩
  obtain ⟨D, hD⟩ : ∃ D, D = u64 d := ⟨_, rfl⟩
  obtain ⟨V0, hV⟩ : ∃ V, V = u64 v := ⟨_, rfl⟩
  obtain ⟨X', hX'⟩ : ∃ A', A' = u64 x := ⟨_, rfl⟩
  obtain ⟨Z', hZ'⟩ : ∃ V', V' = u64 y := ⟨_, rfl⟩
  obtain ⟨D', hD'⟩ : ∃ D', D' = u64 (wr64 (d + x)) := ⟨_, rfl⟩
  obtain ⟨A', hA'⟩ : ∃ A', A' = u64 (wr64 (a + wr64 (d + x))) := ⟨_, rfl⟩
  obtain ⟨V', hV'⟩ : ∃ V', V' = u64 (wr64 (v + y)) := ⟨_, rfl⟩
  have e1 : IntKind.u64.wrap x = X' := by rw [hX']; rfl
  have e2 : IntKind.u64.wrap y = Z' := by rw [hZ']; rfl
  have e3 : IntKind.u64.wrap (D + X') = D' := by rw [hD, hX', hD', u64_add]
  have e4 : IntKind.u64.wrap (A + D') = A' := by rw [hA, hD', hA', u64_add]
  have e5 : IntKind.u64.wrap (V0 + Z') = V' := by rw [hV, hZ', hV', u64_add]
  obtain ⟨r1, hr1⟩ : ∃ r, r = wr64 (a + wr64 (d + x)) := ⟨_, rfl⟩
  obtain ⟨r2, hr2⟩ : ∃ r, r = wr64 (v + y) := ⟨_, rfl⟩
  have e6 : IntKind.i64.wrap A' = r1 := by rw [hA', u64_back, hr1, wr64_wr]
  have e7 : IntKind.i64.wrap V' = r2 := by rw [hV', u64_back, hr2, wr64_wr]
  have Y0 : Hid (Blk w Y 61 [.int .u64 A, .int .u64 D, .int .u64 V0]) := Lib.hid (by rw [hA, hD, hV]; exact hY)
  have HE : Hid (trk (wr64 (a + wr64 (d + x))) (wr64 (d + x)) (wr64 (v + y)) = [.int .u64 A', .int .u64 D', .int .u64 V']) := Lib.hid (by rw [hA', hD', hV']; rfl)
  rw [HE.out, ← hr1, ← hr2]
  clear hY hA hD hV hA' hV' hD' hX' hZ' hr1 hr2 hlt HE
  have y1 : w.cell? ⟨Y, 1, none⟩ = some (.int .u64 D) := Y0.out.cell 1
  have f1 : w.frozen? ⟨Y, 1, none⟩ = false := Y0.out.free 1
  go_enter Try.func43, Try.ntmps43
  go_upto_region 2 with (fail)
  obtain ⟨W1, hW1⟩ : ∃ V, V = w.setCell ⟨Y, 1, none⟩ (.int .u64 D') := ⟨_, rfl⟩
  have Y1 : Hid (Blk W1 Y 61 [.int .u64 A, .int .u64 D', .int .u64 V0]) := Lib.hid (by rw [hW1]; exact Y0.out.set 1 _)
  have L1 : Hid (Sole w W1 Y) := Lib.hid (by rw [hW1]; exact Sole.setCell _ Y 1 _)
  rw [← hW1]
  clear hW1 y1 f1 Y0
  have y0 : W1.cell? ⟨Y, 0, none⟩ = some (.int .u64 A) := Y1.out.cell 0
  have y1 : W1.cell? ⟨Y, 1, none⟩ = some (.int .u64 D') := Y1.out.cell 1
  have f0 : W1.frozen? ⟨Y, 0, none⟩ = false := Y1.out.free 0
  go_wp2_with (fail)
  refine wp_quiet_tail 9 (by kernel_rfl) (by kernel_rfl) (by kernel_rfl) (by kernel_rfl) (by kernel_rfl) (by kernel_rfl) (by kernel_rfl) (by kernel_rfl) ?_
  simp only [List.take_succ_cons, List.take_zero, List.drop_succ_cons, List.drop_zero]
  repeat (go_big_quiet_step (fail))
  refine wpQuiet_nil ?_
  intro wq hwq
  obtain ⟨nq, rfl⟩ := hwq
  go_upto_region 3 with (fail)
  obtain ⟨W2, hW2⟩ : ∃ V, V = (W1.drewN nq).setCell ⟨Y, 0, none⟩ (.int .u64 A') := ⟨_, rfl⟩
  have Y2 : Hid (Blk W2 Y 61 [.int .u64 A', .int .u64 D', .int .u64 V0]) := Lib.hid (by rw [hW2]; exact (Y1.out.drewN nq).set 0 _)
  have L2 : Hid (Sole w W2 Y) := Lib.hid (by rw [hW2]; exact (show Sole w (W1.drewN nq) Y from ⟨below_drewN L1.out.below nq, L1.out.size, L1.out.other⟩).trans (Sole.setCell _ Y 0 _))
  rw [← hW2]
  clear hW2 y0 y1 f0 Y1 L1
  have y2 : W2.cell? ⟨Y, 2, none⟩ = some (.int .u64 V0) := Y2.out.cell 2
  have f2 : W2.frozen? ⟨Y, 2, none⟩ = false := Y2.out.free 2
  go_upto_region 4 with (fail)
  obtain ⟨W3, hW3⟩ : ∃ V, V = W2.setCell ⟨Y, 2, none⟩ (.int .u64 V') := ⟨_, rfl⟩
  have Y3 : Hid (Blk W3 Y 61 [.int .u64 A', .int .u64 D', .int .u64 V']) := Lib.hid (by rw [hW3]; exact Y2.out.set 2 _)
  have L3 : Hid (Sole w W3 Y) := Lib.hid (by rw [hW3]; exact L2.out.trans (Sole.setCell _ Y 2 _))
  rw [← hW3]
  clear hW3 y2 f2 Y2 L2
  have y0 : W3.cell? ⟨Y, 0, none⟩ = some (.int .u64 A') := Y3.out.cell 0
  have y2 : W3.cell? ⟨Y, 2, none⟩ = some (.int .u64 V') := Y3.out.cell 2
  have HCH : Hid (∀ m, Blk (W3.drewN m) Y 61 [.int .u64 A', .int .u64 D', .int .u64 V'] ∧ Chg (fun k => k = Y) w (W3.drewN m)) := Lib.hid fun m => ⟨Y3.out.drewN m, Chg.drewN _ (⟨L3.out.below.os, L3.out.below.tape, L3.out.below.output, by rw [L3.out.size]; exact Nat.le_refl _, fun k _ hne => L3.out.other k hne⟩ : Chg (fun k => k = Y) w W3) m⟩
  go_wp2_with (fail)
  go_quiet (fail)
  go_wp2_with (fail)
  go_ret2
  exact ⟨rfl, HCH.out _⟩
end Go.Proofs.Ytcicdbhffkpldaa
