/- Part 24 of the words that the laws share: SlLow, SlRead. No condition of its own: each theorem says its own. -/
import Derived.Test.YtbodiioemohenaaDoorPart21
import Derived.Test.YtbodiioemohenaaDoorPart23
import Derived.Test.YtbodiioemohenaaDoorPart14
import Derived.Test.YtbodiioemohenaaDoorPart27

/- The developers' slot, its small calls: where a part lies, how many parts there are, whether a head fits, whether a pair is none. Conditions: the numbers are small. -/
namespace Go.Proofs.YtbodiioemohenaaDoor
open Go.RowKit

/-- A pair: where its disk is, from where on, how many sectors a slot has. -/
def prV (dp : Value) (a k : Nat) : List Value := [dp, .int .i64 (a : Int), .int .i64 (k : Int)]
set_option maxRecDepth 100000 in
set_option maxHeartbeats 1000000 in
theorem slSector_any {w : World} {X a k : Nat} {dp : Value} (h : Blk w X 72 (prV dp a k)) (s i : Nat) (hs : s ≤ 1) (ha : a ≤ 1024) (hk : k ≤ 1024) (hi : i ≤ 1024) :
    Calls Tryd.prog 59 #[.pointer (some ⟨X, 0, none⟩), .int .i64 (s : Int), .int .i64 (i : Int)] w fun e w' => e = .returned (.int .i64 ((a + s * k + i : Nat) : Int)) ∧ ∃ m, w' = w.drewN m := by
  have c1 : ∀ m, (w.drewN m).cell? ⟨X, 1, none⟩ = some (.int .i64 (a : Int)) := fun m => by rw [(h.drewN m).cell]; rfl
  have c2 : ∀ m, (w.drewN m).cell? ⟨X, 2, none⟩ = some (.int .i64 (k : Int)) := fun m => by rw [(h.drewN m).cell]; rfl
  obtain ⟨q, hq⟩ : ∃ q, q = s * k := ⟨_, rfl⟩
  have hql : q ≤ 1024 := by
    rw [hq]
    have := Nat.mul_le_mul hs hk
    omega
  have e1 : IntKind.i64.wrap ((s : Int) * (k : Int)) = (q : Int) := by rw [IntWalk.i64_in _ (by rw [← Int.natCast_mul]; omega), hq, Int.natCast_mul]
  obtain ⟨r, hr⟩ : ∃ r, r = a + q := ⟨_, rfl⟩
  have e2 : IntKind.i64.wrap ((a : Int) + (q : Int)) = (r : Int) := by rw [IntWalk.i64_in _ (by omega), hr]; omega
  obtain ⟨t, ht⟩ : ∃ t, t = r + i := ⟨_, rfl⟩
  have e3 : IntKind.i64.wrap ((r : Int) + (i : Int)) = (t : Int) := by rw [IntWalk.i64_in _ (by omega), ht]; omega
  have HT : Hid (a + s * k + i = t) := Lib.hid (by rw [ht, hr, hq])
  clear h hs ha hk hi hq hql hr ht
  rw [HT.out]
  go_enter Tryd.func59, Tryd.ntmps59
  go_wp2_with (fail)
  go_quiet (fail)
  go_wp2_with (fail)
  go_ret
  exact ⟨rfl, _, rfl⟩
set_option maxRecDepth 100000 in
set_option maxHeartbeats 1000000 in
theorem slParts_any (n : Nat) (hn : n ≤ 4294967296) (w : World) :
    Calls Tryd.prog 52 #[.int .i64 (n : Int)] w fun e w' => e = .returned (.int .i64 (cntS n : Int)) ∧ w' = w := by
  obtain ⟨q, hq⟩ : ∃ q, q = (n + 103) / 104 := ⟨_, rfl⟩
  have e1 : IntKind.i64.wrap ((n : Int) + 104) = (n : Int) + 104 := IntWalk.i64_in _ (by omega)
  have e2 : IntKind.i64.wrap ((n : Int) + 104 - 1) = (n : Int) + 103 := by rw [IntWalk.i64_in _ (by omega)]; omega
  have e3 : ((n : Int) + 103) / 104 = (q : Int) := by omega
  have HC : Hid (cntS n = max 1 q) := Lib.hid (by unfold cntS; split <;> omega)
  clear hq
  go_enter Tryd.func52, Tryd.ntmps52
  go_wp2_with (fail)
  all_goals go_ret
  all_goals refine ⟨?_, rfl⟩
  · rw [HC.out, Nat.max_eq_right (by omega)]
    rfl
  · rw [HC.out, Nat.max_eq_left (by omega)]
    rfl
def fitsB (h : Hd) (k : Nat) : Bool := decide (h.c ≤ k) && (h.c == cntS h.l)
set_option maxRecDepth 100000 in
set_option maxHeartbeats 1000000 in
theorem slFits_any (h : Hd) (k : Nat) (hc : h.c < 65536) (hl : h.l < 4294967296) (_hk : k ≤ 1024) (w : World) :
    Calls Tryd.prog 60 #[.agg h.v.toArray, .int .i64 (k : Int)] w fun e w' => e = .returned (.bool (fitsB h k)) ∧ Below w.heap.size w w' := by
  obtain ⟨n, i, c, l, s⟩ := h
  have hc : c < 65536 := hc
  have hl : l < 4294967296 := hl
  have HP : Hid (∀ w, Calls Tryd.prog 52 #[.int .i64 (l : Int)] w fun e w' => e = .returned (.int .i64 (cntS l : Int)) ∧ w' = w) := Lib.hid (slParts_any l (by omega))
  obtain ⟨q, hq⟩ : ∃ q, q = cntS l := ⟨_, rfl⟩
  have HF : Hid (fitsB ⟨n, i, c, l, s⟩ k = (decide (c ≤ k) && (c == q))) := Lib.hid (by rw [hq]; rfl)
  rw [← hq] at HP
  obtain ⟨W0, hW0⟩ : ∃ W : World, W = w.alloc (.cells #[.int .u64 (n : Int), .int .i64 (i : Int), .int .i64 (c : Int), .int .i64 (l : Int), .int .u64 (s : Int)] 98) := ⟨_, rfl⟩
  have hb := Blk.made w 98 [.int .u64 (n : Int), .int .i64 (i : Int), .int .i64 (c : Int), .int .i64 (l : Int), .int .u64 (s : Int)]
  have HB : Hid (Below w.heap.size w W0) := Lib.hid (by rw [hW0]; exact (Below.refl _ _).alloc (Nat.le_refl _) _)
  have hb : Blk W0 w.heap.size 98 [.int .u64 (n : Int), .int .i64 (i : Int), .int .i64 (c : Int), .int .i64 (l : Int), .int .u64 (s : Int)] := by rw [hW0]; exact hb
  have c2 : ∀ m, (W0.drewN m).cell? ⟨w.heap.size, 2, none⟩ = some (.int .i64 (c : Int)) := fun m => by rw [(hb.drewN m).cell]; rfl
  have c3 : ∀ m, (W0.drewN m).cell? ⟨w.heap.size, 3, none⟩ = some (.int .i64 (l : Int)) := fun m => by rw [(hb.drewN m).cell]; rfl
  rw [HF.out]
  show Calls _ _ #[.agg #[.int .u64 (n : Int), .int .i64 (i : Int), .int .i64 (c : Int), .int .i64 (l : Int), .int .u64 (s : Int)], .int .i64 (k : Int)] w _
  clear hb hq HF hc hl
  by_cases hck : c ≤ k
  · have g1 : decide (c ≤ k) = true := decide_eq_true hck
    have g2 : decide ((c : Int) ≤ (k : Int)) = true := decide_eq_true (by omega)
    rw [g1, Bool.true_and]
    by_cases hcq : c = q
    · have g3 : ((c : Int) == (q : Int)) = true := by rw [hcq]; exact beq_self_eq_true _
      have g4 : (c == q) = true := by rw [hcq]; exact beq_self_eq_true _
      rw [g4]
      clear hck hcq
      go_enter Tryd.func60, Tryd.ntmps60
      go_wp2_with (fail)
      rw [← hW0]
      clear hW0
      go_quiet (first | (go_at_call 52; exact Calls.quiet_of_same (HP.out _)))
      go_wp2_with (fail)
      go_ret
      exact ⟨rfl, below_drewN HB.out _⟩
    · have g3 : ((c : Int) == (q : Int)) = false := by rw [beq_eq_false_iff_ne]; omega
      have g4 : (c == q) = false := by rw [beq_eq_false_iff_ne]; exact hcq
      rw [g4]
      clear hck hcq
      go_enter Tryd.func60, Tryd.ntmps60
      go_wp2_with (fail)
      rw [← hW0]
      clear hW0
      go_quiet (first | (go_at_call 52; exact Calls.quiet_of_same (HP.out _)))
      go_wp2_with (fail)
      go_ret
      exact ⟨rfl, below_drewN HB.out _⟩
  · have g1 : decide (c ≤ k) = false := decide_eq_false hck
    have g2 : decide ((c : Int) ≤ (k : Int)) = false := decide_eq_false (by omega)
    rw [g1, Bool.false_and]
    clear hck
    go_enter Tryd.func60, Tryd.ntmps60
    go_wp2_with (fail)
    rw [← hW0]
    clear hW0
    go_quiet (first | (go_at_call 52; exact Calls.quiet_of_same (HP.out _)))
    go_wp2_with (fail)
    go_ret
    exact ⟨rfl, below_drewN HB.out _⟩
set_option maxRecDepth 100000 in
set_option maxHeartbeats 1000000 in
theorem slIsNone_any {w : World} {X a k D : Nat} (h : Blk w X 72 (prV (.pointer (some ⟨D, 0, none⟩)) a k)) :
    Calls Tryd.prog 44 #[.pointer (some ⟨X, 0, none⟩)] w fun e w' => e = .returned (.bool false) ∧ w' = w := by
  have c0 : w.cell? ⟨X, 0, none⟩ = some (.pointer (some ⟨D, 0, none⟩)) := by rw [h.cell]; rfl
  clear h
  go_enter Tryd.func44, Tryd.ntmps44
  go_wp2_with (fail)
  go_ret
  exact ⟨rfl, rfl⟩
set_option maxRecDepth 100000 in
theorem slIsNone_nil (w : World) : Calls Tryd.prog 44 #[.pointer none] w fun e w' => e = .returned (.bool true) ∧ w' = w := by
  go_enter Tryd.func44, Tryd.ntmps44
  go_wp2_with (fail)
  go_ret
  exact ⟨rfl, rfl⟩
theorem leB_numB : ∀ (k : Nat) (xs : List UInt8), xs.length = k → leB k (numB xs) = xs
  | 0, xs, h => by
    rw [List.eq_nil_of_length_eq_zero h]
    rfl
  | k + 1, [], h => by cases h
  | k + 1, x :: xs, h => by
    have h2 : xs.length = k := by simpa using h
    have hx := x.toNat_lt
    rw [numB, leB, show (x.toNat + 256 * numB xs) / 256 = numB xs by omega, leB_numB k xs h2]
    congr 1
    apply UInt8.toNat_inj.1
    rw [UInt8.toNat_ofNat']
    omega
set_option maxRecDepth 100000 in
set_option maxHeartbeats 2000000 in
theorem slForm_any (h : Hd) (hn : h.n < 256 ^ 8) (hi : h.i < 65536) (hc : h.c < 65536) (hl : h.l < 4294967296) (hs : h.s < 256 ^ 8) (w : World) :
    Calls Tryd.prog 65 #[.agg h.v.toArray] w (Own w 5 (leB 8 h.n ++ leB 2 h.i ++ leB 2 h.c ++ leB 4 h.l ++ leB 8 h.s)) := by
  obtain ⟨n, i, c, l, s⟩ := h
  have hn : n < 256 ^ 8 := hn
  have hi : i < 65536 := hi
  have hc : c < 65536 := hc
  have hl : l < 4294967296 := hl
  have hs : s < 256 ^ 8 := hs
  have i1 : IntKind.u64.wrap (i : Int) = (i : Int) := IntWalk.u64_in _ (by omega)
  have i2 : IntKind.u64.wrap (c : Int) = (c : Int) := IntWalk.u64_in _ (by omega)
  have i3 : IntKind.u64.wrap (l : Int) = (l : Int) := IntWalk.u64_in _ (by omega)
  have nI : (n : Int) ≤ 18446744073709551615 := by omega
  have iI : (i : Int) ≤ 18446744073709551615 := by omega
  have cI : (c : Int) ≤ 18446744073709551615 := by omega
  have lI : (l : Int) ≤ 18446744073709551615 := by omega
  have sI : (s : Int) ≤ 18446744073709551615 := by omega
  have NI := Lib.hid nI
  have II := Lib.hid iI
  have CI := Lib.hid cI
  have LI := Lib.hid lI
  have SI := Lib.hid sI
  obtain ⟨W0, hW0⟩ : ∃ W : World, W = w.alloc (.cells #[.int .u64 (n : Int), .int .i64 (i : Int), .int .i64 (c : Int), .int .i64 (l : Int), .int .u64 (s : Int)] 98) := ⟨_, rfl⟩
  have hb := Blk.made w 98 [.int .u64 (n : Int), .int .i64 (i : Int), .int .i64 (c : Int), .int .i64 (l : Int), .int .u64 (s : Int)]
  have HB : Hid (Below w.heap.size w W0 ∧ w.heap.size < W0.heap.size) := Lib.hid (by rw [hW0]; exact ⟨(Below.refl _ _).alloc (Nat.le_refl _) _, by simp⟩)
  have hb : Blk W0 w.heap.size 98 [.int .u64 (n : Int), .int .i64 (i : Int), .int .i64 (c : Int), .int .i64 (l : Int), .int .u64 (s : Int)] := by rw [hW0]; exact hb
  have HH := Lib.hid hb
  have c0 : W0.cell? ⟨w.heap.size, 0, none⟩ = some (.int .u64 (n : Int)) := by rw [hb.cell]; rfl
  show Calls _ _ #[.agg #[.int .u64 (n : Int), .int .i64 (i : Int), .int .i64 (c : Int), .int .i64 (l : Int), .int .u64 (s : Int)]] w (Own w 5 (leB 8 n ++ leB 2 i ++ leB 2 c ++ leB 4 l ++ leB 8 s))
  clear hb hn hi hc hl hs nI iI cI lI sI
  go_enter Tryd.func65, Tryd.ntmps65
  go_wp2_with (fail)
  rw [← hW0]
  clear hW0
  go_wp2_with (fail)
  refine (put_yes (.slice none 0 0) [] n 8 _ (Rd.nil _) (by decide) NI.out (by decide) (by decide)).mono ?_
  rintro e W1 ⟨v1, rfl, o1, b1⟩
  rw [List.nil_append] at o1
  have R1 := Lib.hid (Rd.of_own o1)
  have B1 := Lib.hid (HB.out.1.trans (b1.mono HB.out.1.size))
  have H1 := Lib.hid (HH.out.below b1 HB.out.2)
  have d1 : W1.cell? ⟨w.heap.size, 1, none⟩ = some (.int .i64 (i : Int)) := by rw [H1.out.cell]; rfl
  clear o1 b1 c0
  go_wp2_with (fail)
  refine (put_yes _ (leB 8 n) i 2 _ R1.out (by rw [leB_length]; decide) II.out (by decide) (by decide)).mono ?_
  rintro e W2 ⟨v2, rfl, o2, b2⟩
  have R2 := Lib.hid (Rd.of_own o2)
  have B2 := Lib.hid (B1.out.trans (b2.mono B1.out.size))
  have H2 := Lib.hid (H1.out.below b2 H1.out.lt)
  have d2 : W2.cell? ⟨w.heap.size, 2, none⟩ = some (.int .i64 (c : Int)) := by rw [H2.out.cell]; rfl
  clear o2 b2 d1 R1 B1 H1
  go_wp2_with (fail)
  refine (put_yes _ (leB 8 n ++ leB 2 i) c 2 _ R2.out (by simp only [List.length_append, leB_length]; decide) CI.out (by decide) (by decide)).mono ?_
  rintro e W3 ⟨v3, rfl, o3, b3⟩
  have R3 := Lib.hid (Rd.of_own o3)
  have B3 := Lib.hid (B2.out.trans (b3.mono B2.out.size))
  have H3 := Lib.hid (H2.out.below b3 H2.out.lt)
  have d3 : W3.cell? ⟨w.heap.size, 3, none⟩ = some (.int .i64 (l : Int)) := by rw [H3.out.cell]; rfl
  clear o3 b3 d2 R2 B2 H2
  go_wp2_with (fail)
  refine (put_yes _ (leB 8 n ++ leB 2 i ++ leB 2 c) l 4 _ R3.out (by simp only [List.length_append, leB_length]; decide) LI.out (by decide) (by decide)).mono ?_
  rintro e W4 ⟨v4, rfl, o4, b4⟩
  have R4 := Lib.hid (Rd.of_own o4)
  have B4 := Lib.hid (B3.out.trans (b4.mono B3.out.size))
  have H4 := Lib.hid (H3.out.below b4 H3.out.lt)
  have d4 : W4.cell? ⟨w.heap.size, 4, none⟩ = some (.int .u64 (s : Int)) := by rw [H4.out.cell]; rfl
  clear o4 b4 d3 R3 B3 H3
  go_wp2_with (fail)
  refine (put_yes _ (leB 8 n ++ leB 2 i ++ leB 2 c ++ leB 4 l) s 8 _ R4.out (by simp only [List.length_append, leB_length]; decide) SI.out (by decide) (by decide)).mono ?_
  rintro e W5 ⟨v5, rfl, o5, b5⟩
  have B5 := Lib.hid (B4.out.trans (b5.mono B4.out.size))
  have P5 := Lib.hid o5
  clear o5 b5 d4 R4
  go_wp2_with (fail)
  go_ret
  exact ⟨v5, rfl, own_mono P5.out B4.out.size, B5.out⟩
end Go.Proofs.YtbodiioemohenaaDoor

/- The developers' slot reads a sector: what it tells, the part behind it, whether it can be read. Premise: the disk's contracts. -/
namespace Go.Proofs.YtbodiioemohenaaDoor
open Go.RowKit

theorem results_blk_tmp2 {P : Program} {fn : Func} {p q r : Tmp} {ty : TypeId} (h : fn.results = #[.cell p ty, .tmp q, .tmp r]) (tmps : Array Value) (w : World) (B : Nat) (t : TypeId) (cs : List Value) (d : TypeDesc) (v u : Value)
    (hp : tmps.getD p undef = .pointer (some ⟨B, 0, none⟩)) (hq : tmps.getD q undef = v) (hr : tmps.getD r undef = u) (hb : Blk w B t cs) (hu : P.underlying ty = some d) (hd : (match d with | .struct _ | .array _ _ => true | _ => false) = true) (hi : (P.info? ty).map (·.size) = some cs.length) :
    (results fn tmps).run P w = .ok (.tuple #[.agg cs.toArray, v, u]) w := by
  have hp' : tmps[p]?.getD undef = .pointer (some ⟨B, 0, none⟩) := by simpa using hp
  have hq' : tmps[q]?.getD undef = v := by simpa using hq
  have hr' : tmps[r]?.getD undef = u := by simpa using hr
  simp [results, h, hp', hq', hr', asAddr, run_loadVar_row w B t ty cs.toArray (0, 0) d hb hu hd (by simpa using hi)]
/-- A pair and its disk. -/
structure SlAt (DC : DiskW) (w : World) (X a k D : Nat) (S : DS) (F : Nat → Prop) : Prop where
  pr : Blk w X 72 (prV (.pointer (some ⟨D, 0, none⟩)) a k)
  dk : DC.Is w (.pointer (some ⟨D, 0, none⟩)) S F
  ap : ∀ j, F j → j ≠ X
  k1 : 1 ≤ k
  room : a + 2 * k ≤ 1024
theorem SlAt.on {DC : DiskW} {w w' : World} {X a k D : Nat} {S : DS} {F : Nat → Prop} (h : SlAt DC w X a k D S F) (hb : Below w.heap.size w w') : SlAt DC w' X a k D S F :=
  ⟨h.pr.below hb h.pr.lt, DC.other h.dk (Chg.of_below hb) fun j hj e => by have := DC.lt h.dk j hj; omega, h.ap, h.k1, h.room⟩
theorem hd_zero : (Tryd.prog.info? 98).bind (·.zero) = some (.agg hd0.v.toArray) := by kernel_rfl
theorem hd_one (h : Hd) : ∀ v ∈ h.v, v.oneCell' = true := by
  intro v hv
  unfold Hd.v at hv
  simp only [List.mem_cons, List.not_mem_nil, or_false] at hv
  rcases hv with rfl | rfl | rfl | rfl | rfl <;> rfl
set_option maxRecDepth 100000 in
set_option maxHeartbeats 2000000 in
theorem slRead_any {DC : DiskW} {w : World} {X a k D : Nat} {S : DS} {F : Nat → Prop} (h : SlAt DC w X a k D S F) (q : Nat) (hq : q < 1024) (t : Bool) (ht : sectW S.L (q : Int) = t) (g : Hd) (hg : g = if t then hdOf (sectB S.L (q : Int)) else hd0) :
    Calls Tryd.prog 58 #[.pointer (some ⟨X, 0, none⟩), .int .i64 (q : Int)] w fun e w' => ∃ u, e = .returned (.tuple #[.agg g.v.toArray, u, .bool t]) ∧ (t = true → Rd w' u ((sectB S.L (q : Int)).drop 24) ∧ ∀ j, u.ownBlock = some j → w.heap.size ≤ j) ∧ Below w.heap.size w w' := by
  obtain ⟨N, hN⟩ : ∃ N, w.heap.size = N := ⟨_, rfl⟩
  have HH := Lib.hid h
  have HN := Lib.hid hN
  have HL : Hid ((sectB S.L (q : Int)).length = 128) := Lib.hid (sectB_len (DC.good h.dk) _)
  have HRD : Hid (∀ W, SlAt DC W X a k D S F → Calls Tryd.prog 63 #[.pointer (some ⟨D, 0, none⟩), .int .i64 (q : Int)] W fun e w' => ∃ u, e = .returned (.tuple #[u, .int .i64 (if t then 0 else 9)]) ∧ Rd w' u (if t then sectB S.L (q : Int) else []) ∧ (∀ j, u.ownBlock = some j → W.heap.size ≤ j) ∧ Below W.heap.size W w') := Lib.hid (by
    intro W hW
    refine (DC.read hW.dk (q : Int) (WalkArith.wf_i64 (by omega))).mono ?_
    rintro e w' ⟨u, rfl, h4, h5, h6⟩
    rw [readS_sect, if_neg (by omega), ht] at h4 ⊢
    cases t with
    | true => exact ⟨u, rfl, h4, h5, h6⟩
    | false => exact ⟨u, rfl, h4, h5, h6⟩)
  obtain ⟨bs, hbs⟩ : ∃ bs, bs = sectB S.L (q : Int) := ⟨_, rfl⟩
  rw [← hbs] at HL HRD hg ⊢
  clear h ht hN hq hbs
  cases t with
  | true =>
    have hg : g = hdOf bs := hg
    have HG := Lib.hid hg
    clear hg
    go_enter Tryd.func58, Tryd.ntmps58
    go_upto_region 1 with (first
      | (with_reducible refine here_alloc ?_
         refine wpList_alloc_w rfl 98 rfl hd0.v hd_zero N HN.out ?_
         intro w1 k1 b1 z1
         have K1 := Lib.hid k1
         have B1 := Lib.hid b1
         have Z1 := Lib.hid z1
         clear k1 b1 z1))
    have A1 := Lib.hid (HH.out.on (HN.out ▸ B1.out))
    have c0 : w1.cell? ⟨X, 0, none⟩ = some (.pointer (some ⟨D, 0, none⟩)) := by rw [A1.out.pr.cell]; rfl
    go_wp2_with (fail)
    refine (HRD.out w1 A1.out).mono ?_
    rintro e w2 ⟨v, rfl, rv, ov, b2⟩
    have R2 := Lib.hid rv
    have O2 := Lib.hid ov
    have K2 := Lib.hid (K1.out.below b2 K1.out.lt)
    have B2 := Lib.hid (B1.out.trans (b2.mono (by rw [Z1.out]; exact Nat.le_succ _)))
    clear rv ov b2 c0
    go_wp2_with (fail)
    refine (headOf_any w2 v bs R2.out HL.out).mono ?_
    rintro e w3 ⟨u, rfl, ru, ou, b3⟩
    have R3 := Lib.hid ru
    have O3 := Lib.hid ou
    have K3 := Lib.hid (K2.out.below b3 K2.out.lt)
    have B3 := Lib.hid (B2.out.trans (b3.mono (by have h1 := B2.out.size; rw [HN.out] at h1; exact h1)))
    have HNC : Hid (N < w3.heap.size) := Lib.hid K3.out.lt
    obtain ⟨C, hC⟩ : ∃ C, w3.heap.size = C := ⟨_, rfl⟩
    have HC := Lib.hid hC
    have HZ : Hid ((hdOf bs).v.length = 5) := Lib.hid rfl
    have HZ0 : Hid (hd0.v.length = 5) := Lib.hid rfl
    clear ru ou b3 hC
    go_wp2_with (first
      | (with_reducible refine here_alloc ?_
         refine wpList_alloc_w rfl 98 rfl hd0.v hd_zero C HC.out ?_
         intro w4 k4 b4 z4
         have K4 := Lib.hid k4
         have B4 := Lib.hid b4
         clear k4 b4 z4)
      | (with_reducible refine here_store ?_
         refine wpList_store_blk rfl 98 _ _ rfl C 98 _ K4.out (hdOf bs).v rfl rfl (by rw [HZ.out, HZ0.out]) (by rw [HZ.out]; exact hd_info) (hd_one _) ?_
         intro w5 k5 s5
         have K5 := Lib.hid k5
         have B5 := Lib.hid (B4.out.trans s5.below)
         have N5 := Lib.hid (s5.blk ((K3.out.below B4.out (HC.out ▸ HNC.out))) (by have h1 := HNC.out; rw [HC.out] at h1; exact Nat.ne_of_lt h1))
         clear k5 s5 K4)
      | (with_reducible refine here_load ?_
         refine wpList_load_blk rfl 98 _ rfl C rfl 98 (hdOf bs).v _ K5.out Tryd.underlying98 rfl (by rw [HZ.out]; exact hd_info) ?_
         have L5 := Lib.hid K5.out
         clear K5)
      | (with_reducible refine here_store ?_
         refine wpList_store_blk rfl 98 _ _ rfl N 98 _ N5.out (hdOf bs).v rfl rfl (by rw [HZ.out, HZ0.out]) (by rw [HZ.out]; exact hd_info) (hd_one _) ?_
         intro w6 k6 s6
         have K6 := Lib.hid k6
         have S6 := Lib.hid s6
         clear k6 s6 N5))
    have h5 : Below w3.heap.size w3 w5 := HC.out ▸ B5.out
    have h6 := S6.out
    have h3 := B3.out.size
    refine bodyPost_ret (results_blk_tmp2 (ty := 98) Tryd.results58 _ _ N 98 (hdOf bs).v _ _ _ rfl rfl rfl K6.out Tryd.underlying98 rfl hd_info) rfl ?_
    have hon : ∀ j, u.ownBlock = some j → N + 1 ≤ j := fun j hj => by
      have h7 := O2.out j (O3.out ▸ hj)
      rw [Z1.out] at h7
      exact h7
    have hw := HN.out
    refine ⟨u, by rw [HG.out]; rfl, fun _ => ⟨?_, fun j hj => by have := hon j hj; omega⟩, ?_⟩
    · exact chg_rd0 (sole_only h6) (R3.out.below h5) fun _ j hj e => by have := hon j hj; omega
    · rw [hw]
      exact (B3.out.trans (h5.mono (by omega))).trans h6.below
  | false =>
    have hg : g = hd0 := hg
    have HG := Lib.hid hg
    have HZ0 : Hid (hd0.v.length = 5) := Lib.hid rfl
    clear hg
    go_enter Tryd.func58, Tryd.ntmps58
    go_upto_region 1 with (first
      | (with_reducible refine here_alloc ?_
         refine wpList_alloc_w rfl 98 rfl hd0.v hd_zero N HN.out ?_
         intro w1 k1 b1 z1
         have K1 := Lib.hid k1
         have B1 := Lib.hid b1
         have Z1 := Lib.hid z1
         clear k1 b1 z1))
    have A1 := Lib.hid (HH.out.on (HN.out ▸ B1.out))
    have c0 : w1.cell? ⟨X, 0, none⟩ = some (.pointer (some ⟨D, 0, none⟩)) := by rw [A1.out.pr.cell]; rfl
    go_wp2_with (fail)
    refine (HRD.out w1 A1.out).mono ?_
    rintro e w2 ⟨v, rfl, rv, ov, b2⟩
    have K2 := Lib.hid (K1.out.below b2 K1.out.lt)
    have B2 := Lib.hid (B1.out.trans (b2.mono (by rw [Z1.out]; exact Nat.le_succ _)))
    clear rv ov b2 c0
    go_wp2_with (first
      | (with_reducible refine here_build ?_
         refine wpList_build_zero rfl ?_)
      | (with_reducible refine here_store ?_
         refine wpList_store_blk rfl 98 _ _ rfl N 98 _ K2.out hd0.v rfl rfl (by rw [HZ0.out]) (by rw [HZ0.out]; exact hd_info) (hd_one _) ?_
         intro w6 k6 s6
         have K6 := Lib.hid k6
         have S6 := Lib.hid s6
         clear k6 s6))
    have hw := HN.out
    refine bodyPost_ret (results_blk_tmp2 (ty := 98) Tryd.results58 _ _ N 98 hd0.v _ _ _ rfl rfl rfl K6.out Tryd.underlying98 rfl hd_info) rfl ?_
    refine ⟨.slice none 0 0, by rw [HG.out]; rfl, fun h => (by cases h), ?_⟩
    rw [hw]
    exact B2.out.trans S6.out.below
end Go.Proofs.YtbodiioemohenaaDoor
