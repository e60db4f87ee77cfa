/- Part 25 of the words that the laws share: JrLow, JrRead. No condition of its own: each theorem says its own. -/
import Derived.Test.YtbodiioemohenaaDoorPart21
import Derived.Test.YtbodiioemohenaaDoorPart18
import Derived.Test.YtbodiioemohenaaDoorPart24

/- The developers' journal, its small calls: how many parts there are, whether a record begins so, a head's form, whether a store is none, how many sectors are left, what begins with an image. Conditions: the numbers are small. -/
namespace Go.Proofs.YtbodiioemohenaaDoor
open Go.RowKit

/-- A store: its disk, its pair, what it knows. -/
def jsV (dp pp : Value) (st : JS) : List Value := [dp, pp, .bool st.fresh, .int .u64 (st.n : Int), .int .i64 (st.next : Int), .int .i64 (st.p : Int)]
set_option maxRecDepth 100000 in
set_option maxHeartbeats 1000000 in
theorem jParts_any (n : Nat) (hn : n ≤ 4294967296) (w : World) :
    Calls Tryd.prog 23 #[.int .i64 (n : Int)] w fun e w' => e = .returned (.int .i64 (cntR n : Int)) ∧ w' = w := by
  obtain ⟨q, hq⟩ : ∃ q, q = (n + 107) / 108 := ⟨_, rfl⟩
  have e1 : IntKind.i64.wrap ((n : Int) + 108) = (n : Int) + 108 := IntWalk.i64_in _ (by omega)
  have e2 : IntKind.i64.wrap ((n : Int) + 108 - 1) = (n : Int) + 107 := by rw [IntWalk.i64_in _ (by omega)]; omega
  have e3 : ((n : Int) + 107) / 108 = (q : Int) := by omega
  have HC : Hid (cntR n = max 1 q) := Lib.hid (by unfold cntR; split <;> omega)
  clear hq
  go_enter Tryd.func23, Tryd.ntmps23
  go_wp2_with (fail)
  all_goals go_ret
  all_goals refine ⟨?_, rfl⟩
  · rw [HC.out, Nat.max_eq_right (by omega)]
    rfl
  · rw [HC.out, Nat.max_eq_left (by omega)]
    rfl
def beginsB (h : Hj) (n u : Nat) : Bool := (h.n == n) && (h.u == u) && (h.c == cntR h.l)
set_option maxRecDepth 100000 in
set_option maxHeartbeats 2000000 in
theorem jBegins_any (h : Hj) (n0 u0 : Nat) (hl : h.l < 4294967296) (w : World) :
    Calls Tryd.prog 47 #[.agg h.v.toArray, .int .u64 (n0 : Int), .int .i64 (u0 : Int)] w fun e w' => e = .returned (.bool (beginsB h n0 u0)) ∧ Below w.heap.size w w' := by
  obtain ⟨n, u, i, c, l⟩ := h
  have hl : l < 4294967296 := hl
  have HP : Hid (∀ w, Calls Tryd.prog 23 #[.int .i64 (l : Int)] w fun e w' => e = .returned (.int .i64 (cntR l : Int)) ∧ w' = w) := Lib.hid (jParts_any l (by omega))
  obtain ⟨q, hq⟩ : ∃ q, q = cntR l := ⟨_, rfl⟩
  have HF : Hid (beginsB ⟨n, u, i, c, l⟩ n0 u0 = ((n == n0) && (u == u0) && (c == q))) := Lib.hid (by rw [hq]; rfl)
  rw [← hq] at HP
  obtain ⟨W0, hW0⟩ : ∃ W : World, W = w.alloc (.cells #[.int .u64 (n : Int), .int .i64 (u : Int), .int .i64 (i : Int), .int .i64 (c : Int), .int .i64 (l : Int)] 75) := ⟨_, rfl⟩
  have hb := Blk.made w 75 [.int .u64 (n : Int), .int .i64 (u : Int), .int .i64 (i : Int), .int .i64 (c : Int), .int .i64 (l : Int)]
  have HB : Hid (Below w.heap.size w W0) := Lib.hid (by rw [hW0]; exact (Below.refl _ _).alloc (Nat.le_refl _) _)
  have hb : Blk W0 w.heap.size 75 [.int .u64 (n : Int), .int .i64 (u : Int), .int .i64 (i : Int), .int .i64 (c : Int), .int .i64 (l : Int)] := by rw [hW0]; exact hb
  have c0 : ∀ m, (W0.drewN m).cell? ⟨w.heap.size, 0, none⟩ = some (.int .u64 (n : Int)) := fun m => by rw [(hb.drewN m).cell]; rfl
  have c1 : ∀ m, (W0.drewN m).cell? ⟨w.heap.size, 1, none⟩ = some (.int .i64 (u : Int)) := fun m => by rw [(hb.drewN m).cell]; rfl
  have c3 : ∀ m, (W0.drewN m).cell? ⟨w.heap.size, 3, none⟩ = some (.int .i64 (c : Int)) := fun m => by rw [(hb.drewN m).cell]; rfl
  have c4 : ∀ m, (W0.drewN m).cell? ⟨w.heap.size, 4, none⟩ = some (.int .i64 (l : Int)) := fun m => by rw [(hb.drewN m).cell]; rfl
  rw [HF.out]
  show Calls _ _ #[.agg #[.int .u64 (n : Int), .int .i64 (u : Int), .int .i64 (i : Int), .int .i64 (c : Int), .int .i64 (l : Int)], .int .u64 (n0 : Int), .int .i64 (u0 : Int)] w _
  clear hb hq HF hl
  by_cases h1 : n = n0
  · have g1I : ((n : Int) == (n0 : Int)) = true := by rw [h1]; exact beq_self_eq_true _
    have g1 : (n == n0) = true := by rw [h1]; exact beq_self_eq_true _
    rw [g1, Bool.true_and]
    by_cases h2 : u = u0
    · have g2I : ((u : Int) == (u0 : Int)) = true := by rw [h2]; exact beq_self_eq_true _
      have g2 : (u == u0) = true := by rw [h2]; exact beq_self_eq_true _
      rw [g2, Bool.true_and]
      by_cases h3 : c = q
      · have g3I : ((c : Int) == (q : Int)) = true := by rw [h3]; exact beq_self_eq_true _
        have g3 : (c == q) = true := by rw [h3]; exact beq_self_eq_true _
        rw [g3]
        clear h1 h2 h3
        go_enter Tryd.func47, Tryd.ntmps47
        go_wp2_with (fail)
        rw [← hW0]
        clear hW0
        go_quiet (first | (go_at_call 23; exact Calls.quiet_of_same (HP.out _)))
        go_wp2_with (fail)
        go_ret
        exact ⟨rfl, below_drewN HB.out _⟩
      · have g3I : ((c : Int) == (q : Int)) = false := by rw [beq_eq_false_iff_ne]; omega
        have g3 : (c == q) = false := by rw [beq_eq_false_iff_ne]; exact h3
        rw [g3]
        clear h1 h2 h3
        go_enter Tryd.func47, Tryd.ntmps47
        go_wp2_with (fail)
        rw [← hW0]
        clear hW0
        go_quiet (first | (go_at_call 23; exact Calls.quiet_of_same (HP.out _)))
        go_wp2_with (fail)
        go_ret
        exact ⟨rfl, below_drewN HB.out _⟩
    · have g2I : ((u : Int) == (u0 : Int)) = false := by rw [beq_eq_false_iff_ne]; omega
      have g2 : (u == u0) = false := by rw [beq_eq_false_iff_ne]; exact h2
      rw [g2, Bool.false_and]
      clear h1 h2
      go_enter Tryd.func47, Tryd.ntmps47
      go_wp2_with (fail)
      rw [← hW0]
      clear hW0
      go_quiet (first | (go_at_call 23; exact Calls.quiet_of_same (HP.out _)))
      go_wp2_with (fail)
      go_ret
      exact ⟨rfl, below_drewN HB.out _⟩
  · have g1I : ((n : Int) == (n0 : Int)) = false := by rw [beq_eq_false_iff_ne]; omega
    have g1 : (n == n0) = false := by rw [beq_eq_false_iff_ne]; exact h1
    rw [g1, Bool.false_and, Bool.false_and]
    clear h1
    go_enter Tryd.func47, Tryd.ntmps47
    go_wp2_with (fail)
    rw [← hW0]
    clear hW0
    go_quiet (first | (go_at_call 23; exact Calls.quiet_of_same (HP.out _)))
    go_wp2_with (fail)
    go_ret
    exact ⟨rfl, below_drewN HB.out _⟩
set_option maxRecDepth 100000 in
set_option maxHeartbeats 1000000 in
theorem jIsNone_any {w : World} {X : Nat} {dp : Value} {Y : Addr} {st : JS} (h : Blk w X 51 (jsV dp (.pointer (some Y)) st)) :
    Calls Tryd.prog 20 #[.pointer (some ⟨X, 0, none⟩)] w fun e w' => e = .returned (.bool false) ∧ w' = w := by
  have c1 : w.cell? ⟨X, 1, none⟩ = some (.pointer (some Y)) := by rw [h.cell]; rfl
  clear h
  go_enter Tryd.func20, Tryd.ntmps20
  go_wp2_with (fail)
  go_ret
  exact ⟨rfl, rfl⟩
set_option maxRecDepth 100000 in
set_option maxHeartbeats 1000000 in
theorem jLeft_any {w : World} {X : Nat} {dp pp : Value} {st : JS} (h : Blk w X 51 (jsV dp pp st)) (hp : st.p ≤ 1024) :
    Calls Tryd.prog 24 #[.pointer (some ⟨X, 0, none⟩)] w fun e w' => e = .returned (.int .i64 ((1024 - st.p : Nat) : Int)) ∧ w' = w := by
  have c5 : w.cell? ⟨X, 5, none⟩ = some (.int .i64 (st.p : Int)) := by rw [h.cell]; rfl
  obtain ⟨q, hq⟩ : ∃ q, q = 1024 - st.p := ⟨_, rfl⟩
  have e1 : IntKind.i64.wrap (1024 - (st.p : Int)) = (q : Int) := by rw [IntWalk.i64_in _ (by omega)]; omega
  have HQ := Lib.hid hq
  clear h hp hq
  go_enter Tryd.func24, Tryd.ntmps24
  go_wp2_with (fail)
  go_ret
  rw [← HQ.out]
  exact ⟨rfl, rfl⟩
set_option maxRecDepth 100000 in
set_option maxHeartbeats 2000000 in
theorem jBegin_any {w : World} {X : Nat} {dp pp : Value} {st : JS} (h : Blk w X 51 (jsV dp pp st)) (n : Nat) :
    Calls Tryd.prog 22 #[.pointer (some ⟨X, 0, none⟩), .int .u64 (n : Int)] w fun e w' => e = .returned (.tuple #[]) ∧ Blk w' X 51 (jsV dp pp ⟨true, n, 0, 512⟩) ∧ Sole w w' X := by
  have f2 : w.frozen? ⟨X, 2, none⟩ = false := h.free 2
  have f3 : w.frozen? ⟨X, 3, none⟩ = false := h.free 3
  have f4 : w.frozen? ⟨X, 4, none⟩ = false := h.free 4
  have f5 : w.frozen? ⟨X, 5, none⟩ = false := h.free 5
  have c2 : w.cell? ⟨X, 2, none⟩ = some (.bool st.fresh) := by rw [h.cell]; rfl
  have c3 : w.cell? ⟨X, 3, none⟩ = some (.int .u64 (st.n : Int)) := by rw [h.cell]; rfl
  have c4 : w.cell? ⟨X, 4, none⟩ = some (.int .i64 (st.next : Int)) := by rw [h.cell]; rfl
  have c5 : w.cell? ⟨X, 5, none⟩ = some (.int .i64 (st.p : Int)) := by rw [h.cell]; rfl
  have HH := Lib.hid h
  clear h
  go_enter Tryd.func22, Tryd.ntmps22
  go_wp2_with (fail)
  go_end0
  exact ⟨rfl, ((((HH.out.set 2 (.bool true)).set 3 (.int .u64 (n : Int))).set 4 (.int .i64 0)).set 5 (.int .i64 512)), (((Sole.setCell _ _ _ _).trans (Sole.setCell _ _ _ _)).trans (Sole.setCell _ _ _ _)).trans (Sole.setCell _ _ _ _)⟩
set_option maxRecDepth 100000 in
set_option maxHeartbeats 2000000 in
theorem jForm_any (h : Hj) (hn : h.n < 256 ^ 8) (hu : h.u < 4294967296) (hi : h.i < 65536) (hc : h.c < 65536) (hl : h.l < 4294967296) (w : World) :
    Calls Tryd.prog 38 #[.agg h.v.toArray] w (Own w 5 (hdrR h.n h.u h.i h.c h.l)) := by
  obtain ⟨n, u, i, c, l⟩ := h
  have hn : n < 256 ^ 8 := hn
  have hi : i < 65536 := hi
  have hc : c < 65536 := hc
  have hl : l < 4294967296 := hl
  have hu : u < 4294967296 := hu
  have i0 : IntKind.u64.wrap (u : Int) = (u : Int) := IntWalk.u64_in _ (by omega)
  have i1 : IntKind.u64.wrap (i : Int) = (i : Int) := IntWalk.u64_in _ (by omega)
  have i2 : IntKind.u64.wrap (c : Int) = (c : Int) := IntWalk.u64_in _ (by omega)
  have i3 : IntKind.u64.wrap (l : Int) = (l : Int) := IntWalk.u64_in _ (by omega)
  have nI : (n : Int) ≤ 18446744073709551615 := by omega
  have iI : (i : Int) ≤ 18446744073709551615 := by omega
  have cI : (c : Int) ≤ 18446744073709551615 := by omega
  have lI : (l : Int) ≤ 18446744073709551615 := by omega
  have uI : (u : Int) ≤ 18446744073709551615 := by omega
  have NI := Lib.hid nI
  have II := Lib.hid iI
  have CI := Lib.hid cI
  have LI := Lib.hid lI
  have UI := Lib.hid uI
  obtain ⟨W0, hW0⟩ : ∃ W : World, W = w.alloc (.cells #[.int .u64 (n : Int), .int .i64 (u : Int), .int .i64 (i : Int), .int .i64 (c : Int), .int .i64 (l : Int)] 75) := ⟨_, rfl⟩
  have hb := Blk.made w 75 [.int .u64 (n : Int), .int .i64 (u : Int), .int .i64 (i : Int), .int .i64 (c : Int), .int .i64 (l : Int)]
  have HB : Hid (Below w.heap.size w W0 ∧ w.heap.size < W0.heap.size) := Lib.hid (by rw [hW0]; exact ⟨(Below.refl _ _).alloc (Nat.le_refl _) _, by simp⟩)
  have hb : Blk W0 w.heap.size 75 [.int .u64 (n : Int), .int .i64 (u : Int), .int .i64 (i : Int), .int .i64 (c : Int), .int .i64 (l : Int)] := by rw [hW0]; exact hb
  have HH := Lib.hid hb
  have c0 : W0.cell? ⟨w.heap.size, 0, none⟩ = some (.int .u64 (n : Int)) := by rw [hb.cell]; rfl
  show Calls _ _ #[.agg #[.int .u64 (n : Int), .int .i64 (u : Int), .int .i64 (i : Int), .int .i64 (c : Int), .int .i64 (l : Int)]] w (Own w 5 (leB 8 n ++ leB 4 u ++ leB 2 i ++ leB 2 c ++ leB 4 l))
  clear hb hn hi hc hl hu nI iI cI lI uI
  go_enter Tryd.func38, Tryd.ntmps38
  go_wp2_with (fail)
  rw [← hW0]
  clear hW0
  go_wp2_with (fail)
  refine (put_yes (.slice none 0 0) [] n 8 _ (Rd.nil _) (by decide) NI.out (by decide) (by decide)).mono ?_
  rintro e W1 ⟨v1, rfl, o1, b1⟩
  rw [List.nil_append] at o1
  have R1 := Lib.hid (Rd.of_own o1)
  have B1 := Lib.hid (HB.out.1.trans (b1.mono HB.out.1.size))
  have H1 := Lib.hid (HH.out.below b1 HB.out.2)
  have d1 : W1.cell? ⟨w.heap.size, 1, none⟩ = some (.int .i64 (u : Int)) := by rw [H1.out.cell]; rfl
  clear o1 b1 c0
  go_wp2_with (fail)
  refine (put_yes _ (leB 8 n) u 4 _ R1.out (by rw [leB_length]; decide) UI.out (by decide) (by decide)).mono ?_
  rintro e W2 ⟨v2, rfl, o2, b2⟩
  have R2 := Lib.hid (Rd.of_own o2)
  have B2 := Lib.hid (B1.out.trans (b2.mono B1.out.size))
  have H2 := Lib.hid (H1.out.below b2 H1.out.lt)
  have d2 : W2.cell? ⟨w.heap.size, 2, none⟩ = some (.int .i64 (i : Int)) := by rw [H2.out.cell]; rfl
  clear o2 b2 d1 R1 B1 H1
  go_wp2_with (fail)
  refine (put_yes _ (leB 8 n ++ leB 4 u) i 2 _ R2.out (by simp only [List.length_append, leB_length]; decide) II.out (by decide) (by decide)).mono ?_
  rintro e W3 ⟨v3, rfl, o3, b3⟩
  have R3 := Lib.hid (Rd.of_own o3)
  have B3 := Lib.hid (B2.out.trans (b3.mono B2.out.size))
  have H3 := Lib.hid (H2.out.below b3 H2.out.lt)
  have d3 : W3.cell? ⟨w.heap.size, 3, none⟩ = some (.int .i64 (c : Int)) := by rw [H3.out.cell]; rfl
  clear o3 b3 d2 R2 B2 H2
  go_wp2_with (fail)
  refine (put_yes _ (leB 8 n ++ leB 4 u ++ leB 2 i) c 2 _ R3.out (by simp only [List.length_append, leB_length]; decide) CI.out (by decide) (by decide)).mono ?_
  rintro e W4 ⟨v4, rfl, o4, b4⟩
  have R4 := Lib.hid (Rd.of_own o4)
  have B4 := Lib.hid (B3.out.trans (b4.mono B3.out.size))
  have H4 := Lib.hid (H3.out.below b4 H3.out.lt)
  have d4 : W4.cell? ⟨w.heap.size, 4, none⟩ = some (.int .i64 (l : Int)) := by rw [H4.out.cell]; rfl
  clear o4 b4 d3 R3 B3 H3
  go_wp2_with (fail)
  refine (put_yes _ (leB 8 n ++ leB 4 u ++ leB 2 i ++ leB 2 c) l 4 _ R4.out (by simp only [List.length_append, leB_length]; decide) LI.out (by decide) (by decide)).mono ?_
  rintro e W5 ⟨v5, rfl, o5, b5⟩
  have B5 := Lib.hid (B4.out.trans (b5.mono B4.out.size))
  have P5 := Lib.hid o5
  clear o5 b5 d4 R4
  go_wp2_with (fail)
  go_ret
  exact ⟨v5, rfl, own_mono P5.out B4.out.size, B5.out⟩
end Go.Proofs.YtbodiioemohenaaDoor

/- The developers' journal reads a sector: what it tells, the part behind it, whether it can be read. Premise: the disk's contracts. -/
namespace Go.Proofs.YtbodiioemohenaaDoor
open Go.RowKit

/-- A store and its disk. -/
structure JrAt (DC : DiskW) (w : World) (X D : Nat) (pp : Value) (st : JS) (S : DS) (F : Nat → Prop) : Prop where
  pr : Blk w X 51 (jsV (.pointer (some ⟨D, 0, none⟩)) pp st)
  dk : DC.Is w (.pointer (some ⟨D, 0, none⟩)) S F
  ap : ∀ j, F j → j ≠ X
theorem JrAt.on {DC : DiskW} {w w' : World} {X D : Nat} {pp : Value} {st : JS} {S : DS} {F : Nat → Prop} (h : JrAt DC w X D pp st S F) (hb : Below w.heap.size w w') : JrAt DC w' X D pp st S F :=
  ⟨h.pr.below hb h.pr.lt, DC.other h.dk (Chg.of_below hb) fun j hj e => by have := DC.lt h.dk j hj; omega, h.ap⟩
theorem JrAt.chg {DC : DiskW} {w w' : World} {X D : Nat} {pp : Value} {st : JS} {S : DS} {F G : Nat → Prop} (h : JrAt DC w X D pp st S F) (hc : Chg G w w') (hX : ¬ G X) (hF : ∀ j, F j → ¬ G j) : JrAt DC w' X D pp st S F :=
  ⟨hc.blk h.pr hX, DC.other h.dk hc hF, h.ap⟩
/-- A sector that there is, and that can be read. -/
def okS (S : DS) (q : Nat) : Bool := decide (q < 1024) && sectW S.L (q : Int)
theorem hj_zero : (Tryd.prog.info? 75).bind (·.zero) = some (.agg hj0.v.toArray) := by kernel_rfl
theorem hj_one (h : Hj) : ∀ v ∈ h.v, v.oneCell' = true := by
  intro v hv
  unfold Hj.v at hv
  simp only [List.mem_cons, List.not_mem_nil, or_false] at hv
  rcases hv with rfl | rfl | rfl | rfl | rfl <;> rfl
set_option maxRecDepth 100000 in
set_option maxHeartbeats 2000000 in
theorem jRead_any {DC : DiskW} {w : World} {X D : Nat} {pp : Value} {st : JS} {S : DS} {F : Nat → Prop} (h : JrAt DC w X D pp st S F) (q : Nat) (hq : q ≤ 100000) (t : Bool) (ht : okS S q = t) (g : Hj) (hg : g = if t then hjOf (sectB S.L (q : Int)) else hj0) :
    Calls Tryd.prog 46 #[.pointer (some ⟨X, 0, none⟩), .int .i64 (q : Int)] w fun e w' => ∃ u, e = .returned (.tuple #[.agg g.v.toArray, u, .bool t]) ∧ (t = true → Rd w' u ((sectB S.L (q : Int)).drop 20) ∧ ∀ j, u.ownBlock = some j → w.heap.size ≤ j) ∧ Below w.heap.size w w' := by
  obtain ⟨N, hN⟩ : ∃ N, w.heap.size = N := ⟨_, rfl⟩
  have HH := Lib.hid h
  have HN := Lib.hid hN
  have HL : Hid ((sectB S.L (q : Int)).length = 128) := Lib.hid (sectB_len (DC.good h.dk) _)
  obtain ⟨cd, hcd, hrd⟩ : ∃ cd : Int, ((t = true ∧ cd = 0) ∨ (t = false ∧ (cd = 1 ∨ cd = 9))) ∧ ∀ W, JrAt DC W X D pp st S F → Calls Tryd.prog 63 #[.pointer (some ⟨D, 0, none⟩), .int .i64 (q : Int)] W fun e w' => ∃ u, e = .returned (.tuple #[u, .int .i64 cd]) ∧ Rd w' u (if t then sectB S.L (q : Int) else []) ∧ (∀ j, u.ownBlock = some j → W.heap.size ≤ j) ∧ Below W.heap.size W w' := by
    unfold okS at ht
    by_cases hlt : q < 1024
    · rw [decide_eq_true hlt, Bool.true_and] at ht
      refine ⟨if t then 0 else 9, ?_, fun W hW => ?_⟩
      · cases t with
        | true => exact .inl ⟨rfl, rfl⟩
        | false => exact .inr ⟨rfl, .inr rfl⟩
      · refine (DC.read hW.dk (q : Int) (WalkArith.wf_i64 (by omega))).mono ?_
        rintro e w' ⟨u, rfl, h4, h5, h6⟩
        rw [readS_sect, if_neg (by omega), ht] at h4 ⊢
        cases t with
        | true => exact ⟨u, rfl, h4, h5, h6⟩
        | false => exact ⟨u, rfl, h4, h5, h6⟩
    · rw [decide_eq_false hlt, Bool.false_and] at ht
      subst ht
      refine ⟨1, .inr ⟨rfl, .inl rfl⟩, fun W hW => ?_⟩
      refine (DC.read hW.dk (q : Int) (WalkArith.wf_i64 (by omega))).mono ?_
      rintro e w' ⟨u, rfl, h4, h5, h6⟩
      rw [readS_sect, if_pos (by omega)] at h4 ⊢
      exact ⟨u, rfl, h4, h5, h6⟩
  have HRD := Lib.hid hrd
  obtain ⟨bs, hbs⟩ : ∃ bs, bs = sectB S.L (q : Int) := ⟨_, rfl⟩
  rw [← hbs] at HL HRD hg ⊢
  clear h ht hN hq hbs hrd
  cases t with
  | true =>
    obtain rfl : cd = 0 := by
      rcases hcd with h | h
      · exact h.2
      · cases h.1
    clear hcd
    have hg : g = hjOf bs := hg
    have HG := Lib.hid hg
    clear hg
    go_enter Tryd.func46, Tryd.ntmps46
    go_upto_region 1 with (first
      | (with_reducible refine here_alloc ?_
         refine wpList_alloc_w rfl 75 rfl hj0.v hj_zero N HN.out ?_
         intro w1 k1 b1 z1
         have K1 := Lib.hid k1
         have B1 := Lib.hid b1
         have Z1 := Lib.hid z1
         clear k1 b1 z1))
    have A1 := Lib.hid (HH.out.on (HN.out ▸ B1.out))
    have c0 : w1.cell? ⟨X, 0, none⟩ = some (.pointer (some ⟨D, 0, none⟩)) := by rw [A1.out.pr.cell]; rfl
    go_wp2_with (fail)
    refine (HRD.out w1 A1.out).mono ?_
    rintro e w2 ⟨v, rfl, rv, ov, b2⟩
    have R2 := Lib.hid rv
    have O2 := Lib.hid ov
    have K2 := Lib.hid (K1.out.below b2 K1.out.lt)
    have B2 := Lib.hid (B1.out.trans (b2.mono (by rw [Z1.out]; exact Nat.le_succ _)))
    clear rv ov b2 c0
    go_wp2_with (fail)
    refine (headOfJ_any w2 v bs R2.out HL.out).mono ?_
    rintro e w3 ⟨u, rfl, ru, ou, b3⟩
    have R3 := Lib.hid ru
    have O3 := Lib.hid ou
    have K3 := Lib.hid (K2.out.below b3 K2.out.lt)
    have B3 := Lib.hid (B2.out.trans (b3.mono (by have h1 := B2.out.size; rw [HN.out] at h1; exact h1)))
    have HNC : Hid (N < w3.heap.size) := Lib.hid K3.out.lt
    obtain ⟨C, hC⟩ : ∃ C, w3.heap.size = C := ⟨_, rfl⟩
    have HC := Lib.hid hC
    have HZ : Hid ((hjOf bs).v.length = 5) := Lib.hid rfl
    have HZ0 : Hid (hj0.v.length = 5) := Lib.hid rfl
    clear ru ou b3 hC
    go_wp2_with (first
      | (with_reducible refine here_alloc ?_
         refine wpList_alloc_w rfl 75 rfl hj0.v hj_zero C HC.out ?_
         intro w4 k4 b4 z4
         have K4 := Lib.hid k4
         have B4 := Lib.hid b4
         clear k4 b4 z4)
      | (with_reducible refine here_store ?_
         refine wpList_store_blk rfl 75 _ _ rfl C 75 _ K4.out (hjOf bs).v rfl rfl (by rw [HZ.out, HZ0.out]) (by rw [HZ.out]; exact hj_info) (hj_one _) ?_
         intro w5 k5 s5
         have K5 := Lib.hid k5
         have B5 := Lib.hid (B4.out.trans s5.below)
         have N5 := Lib.hid (s5.blk ((K3.out.below B4.out (HC.out ▸ HNC.out))) (by have h1 := HNC.out; rw [HC.out] at h1; exact Nat.ne_of_lt h1))
         clear k5 s5 K4)
      | (with_reducible refine here_load ?_
         refine wpList_load_blk rfl 75 _ rfl C rfl 75 (hjOf bs).v _ K5.out Tryd.underlying75 rfl (by rw [HZ.out]; exact hj_info) ?_
         have L5 := Lib.hid K5.out
         clear K5)
      | (with_reducible refine here_store ?_
         refine wpList_store_blk rfl 75 _ _ rfl N 75 _ N5.out (hjOf bs).v rfl rfl (by rw [HZ.out, HZ0.out]) (by rw [HZ.out]; exact hj_info) (hj_one _) ?_
         intro w6 k6 s6
         have K6 := Lib.hid k6
         have S6 := Lib.hid s6
         clear k6 s6 N5))
    have h5 : Below w3.heap.size w3 w5 := HC.out ▸ B5.out
    have h6 := S6.out
    have h3 := B3.out.size
    refine bodyPost_ret (results_blk_tmp2 (ty := 75) Tryd.results46 _ _ N 75 (hjOf bs).v _ _ _ rfl rfl rfl K6.out Tryd.underlying75 rfl hj_info) rfl ?_
    have hon : ∀ j, u.ownBlock = some j → N + 1 ≤ j := fun j hj => by
      have h7 := O2.out j (O3.out ▸ hj)
      rw [Z1.out] at h7
      exact h7
    have hw := HN.out
    refine ⟨u, by rw [HG.out]; rfl, fun _ => ⟨?_, fun j hj => by have := hon j hj; omega⟩, ?_⟩
    · exact chg_rd0 (sole_only h6) (R3.out.below h5) fun _ j hj e => by have := hon j hj; omega
    · rw [hw]
      exact (B3.out.trans (h5.mono (by omega))).trans h6.below
  | false =>
    have hg : g = hj0 := hg
    have HG := Lib.hid hg
    have HZ0 : Hid (hj0.v.length = 5) := Lib.hid rfl
    have hcd : cd = 1 ∨ cd = 9 := by
      rcases hcd with h | h
      · cases h.1
      · exact h.2
    clear hg
    rcases hcd with rfl | rfl
    all_goals
      go_enter Tryd.func46, Tryd.ntmps46
      go_upto_region 1 with (first
        | (with_reducible refine here_alloc ?_
           refine wpList_alloc_w rfl 75 rfl hj0.v hj_zero N HN.out ?_
           intro w1 k1 b1 z1
           have K1 := Lib.hid k1
           have B1 := Lib.hid b1
           have Z1 := Lib.hid z1
           clear k1 b1 z1))
      have A1 := Lib.hid (HH.out.on (HN.out ▸ B1.out))
      have c0 : w1.cell? ⟨X, 0, none⟩ = some (.pointer (some ⟨D, 0, none⟩)) := by rw [A1.out.pr.cell]; rfl
      go_wp2_with (fail)
      refine (HRD.out w1 A1.out).mono ?_
      rintro e w2 ⟨v, rfl, rv, ov, b2⟩
      have K2 := Lib.hid (K1.out.below b2 K1.out.lt)
      have B2 := Lib.hid (B1.out.trans (b2.mono (by rw [Z1.out]; exact Nat.le_succ _)))
      clear rv ov b2 c0
      go_wp2_with (first
        | (with_reducible refine here_build ?_
           refine wpList_build_zero rfl ?_)
        | (with_reducible refine here_store ?_
           refine wpList_store_blk rfl 75 _ _ rfl N 75 _ K2.out hj0.v rfl rfl (by rw [HZ0.out]) (by rw [HZ0.out]; exact hj_info) (hj_one _) ?_
           intro w6 k6 s6
           have K6 := Lib.hid k6
           have S6 := Lib.hid s6
           clear k6 s6))
      have hw := HN.out
      refine bodyPost_ret (results_blk_tmp2 (ty := 75) Tryd.results46 _ _ N 75 hj0.v _ _ _ rfl rfl rfl K6.out Tryd.underlying75 rfl hj_info) rfl ?_
      refine ⟨.slice none 0 0, by rw [HG.out]; rfl, fun h => (by cases h), ?_⟩
      rw [hw]
      exact B2.out.trans S6.out.below
end Go.Proofs.YtbodiioemohenaaDoor
