/- Part 37 of the words that the laws share: SlNow, SlNew, SlGre. No condition of its own: each theorem says its own. -/
import Derived.Test.YtbodiioemohenaaDoorPart28
import Derived.Test.YtbodiioemohenaaDoorPart36
import Derived.Test.YtbodiioemohenaaDoorPart5
import Derived.Test.YtbodiioemohenaaDoorPart12

/- The developers' newest, its outer loop: one slot behind the other. Premise: the disk's contracts. -/
namespace Go.Proofs.YtbodiioemohenaaDoor
open Go.RowKit

/-- What the first slots have. -/
noncomputable def upS (S : DS) (a k : Nat) : Nat → Option (List UInt8 × Nat × Nat)
  | 0 => none
  | 1 => loadOf (slotOf fp8 (viewS S a) k) none
  | _ + 2 => loadS fp8 S a k
theorem up_none {S : DS} {a k i : Nat} (hi : i < 2) (h : slotOf fp8 (viewS S (a + i * k)) k = none) : upS S a k (i + 1) = upS S a k i := by
  obtain rfl | rfl : i = 0 ∨ i = 1 := by omega
  · rw [Nat.zero_mul, Nat.add_zero] at h
    show loadOf (slotOf fp8 (viewS S a) k) none = none
    rw [h]
    rfl
  · rw [Nat.one_mul] at h
    show loadOf (slotOf fp8 (viewS S a) k) (slotOf fp8 (viewS S (a + k)) k) = loadOf (slotOf fp8 (viewS S a) k) none
    rw [h]
theorem up_first {S : DS} {a k i n : Nat} {b : List UInt8} (hi : i < 2) (h : slotOf fp8 (viewS S (a + i * k)) k = some (b, n)) (hu : upS S a k i = none) : upS S a k (i + 1) = some (b, n, i) := by
  obtain rfl | rfl : i = 0 ∨ i = 1 := by omega
  · rw [Nat.zero_mul, Nat.add_zero] at h
    show loadOf (slotOf fp8 (viewS S a) k) none = _
    rw [h]
    rfl
  · rw [Nat.one_mul] at h
    have hu : loadOf (slotOf fp8 (viewS S a) k) none = none := hu
    show loadOf (slotOf fp8 (viewS S a) k) (slotOf fp8 (viewS S (a + k)) k) = _
    rw [h]
    cases h0 : slotOf fp8 (viewS S a) k with
    | none => rfl
    | some r =>
      rw [h0] at hu
      cases hu
theorem up_two {S : DS} {a k i n m s : Nat} {b c : List UInt8} (hi : i < 2) (h : slotOf fp8 (viewS S (a + i * k)) k = some (b, n)) (hu : upS S a k i = some (c, m, s)) : upS S a k (i + 1) = if m < n then some (b, n, i) else upS S a k i := by
  obtain rfl | rfl : i = 0 ∨ i = 1 := by omega
  · cases hu
  · rw [Nat.one_mul] at h
    rw [hu]
    have hu : loadOf (slotOf fp8 (viewS S a) k) none = _ := hu
    show loadOf (slotOf fp8 (viewS S a) k) (slotOf fp8 (viewS S (a + k)) k) = _
    rw [h]
    cases h0 : slotOf fp8 (viewS S a) k with
    | none =>
      rw [h0] at hu
      cases hu
    | some r =>
      rw [h0] at hu
      injection hu with hu
      injection hu with h1 h2
      injection h2 with h2 h3
      subst h1 h2 h3
      show (if n ≤ r.2 then some (r.1, r.2, 0) else some (b, n, 1)) = _
      by_cases e : n ≤ r.2
      · rw [if_pos e, if_neg (by omega)]
      · rw [if_neg e, if_pos (by omega)]
def wholeV (s n : Nat) (u : Value) : List Value := [.int .i64 (s : Int), .int .u64 (n : Int), u]
/-- What newest holds. -/
def BestIs (r : Option (List UInt8 × Nat × Nat)) (R : Nat) (v : Value) (W : World) : Prop :=
  match r with
  | none => v = .bool false ∧ Blk W R 82 (wholeV 0 0 (.slice none 0 0))
  | some (b, n, s) => v = .bool true ∧ ∃ u, Blk W R 82 (wholeV s n u) ∧ Rd W u b ∧ ∀ j, u.ownBlock = some j → R < j
theorem BestIs.on {r : Option (List UInt8 × Nat × Nat)} {R : Nat} {v : Value} {W W' : World} {G : Nat → Prop} (h : BestIs r R v W) (hc : Chg G W W') (hG : ∀ j, G j → W.heap.size ≤ j) : BestIs r R v W' := by
  cases r with
  | none => exact ⟨h.1, hc.blk h.2 fun e => by have h1 := hG _ e; have := h.2.lt; omega⟩
  | some r =>
    obtain ⟨b, n, s⟩ := r
    obtain ⟨h1, u, h2, h3, h4⟩ := h
    refine ⟨h1, u, hc.blk h2 fun e => by have h1 := hG _ e; have := h2.lt; omega, ?_, h4⟩
    refine h3.keep hc.size fun p hp => ?_
    exact hc.cell hp fun e => by have := hG _ e; omega
def NowRel (S : DS) (a k : Nat) (w : World) (R : Nat) (v3 x : Value) (W : World) : Prop := ∃ i : Nat, x = .int .i64 (i : Int) ∧ i ≤ 2 ∧ BestIs (upS S a k i) R v3 W ∧ Below w.heap.size w W
theorem rs_lone {w : World} {v : Value} {xs : List UInt8} {t : TypeId} (h : Rd w v xs) : Rs (w.alloc (.cells #[v] t)) (.slice (some ⟨w.heap.size, 0, none⟩) 1 1) [xs] := by
  refine ⟨w.heap.size, 1, rfl, by simp, fun i hi => ?_⟩
  obtain rfl : i = 0 := by simpa using hi
  refine ⟨v, ?_, h.alloc _⟩
  rw [cell_of_row _ w.heap.size 0 _ _ _ (heap_alloc_new w _)]
  rfl
theorem rd_take {w : World} {b off n c : Nat} {xs : List UInt8} (h : Rd w (.slice (some ⟨b, off, none⟩) n c) xs) (l : Nat) (hl : l ≤ xs.length) : Rd w (.slice (some ⟨b, off, none⟩) l c) (xs.take l) := by
  rcases h with ⟨A, c', e, h1, h2, rfl⟩ | ⟨b', off', c', e, h2, h3, h4, h5⟩
  · injection e with e1 e2 e3
    subst e3
    have hl : l = 0 := by simpa using hl
    subst hl
    exact .inl ⟨_, _, rfl, h1, (fun h => by cases h), rfl⟩
  · injection e with e1 e2 e3
    injection e1 with e1
    injection e1 with e1 e4 _
    subst e1 e3 e4
    have e5 : (xs.take l).length = l := by rw [List.length_take]; omega
    refine .inr ⟨_, _, _, by rw [e5], h2, by rw [e5]; omega, h4, fun i hi => ?_⟩
    rw [h5 i (by omega), List.getElem_take]
theorem best_new {r : Option (List UInt8 × Nat × Nat)} {b : List UInt8} {n i R : Nat} {u : Value} {W : World} (hr : r = some (b, n, i)) (h1 : Blk W R 82 (wholeV i n u)) (h2 : Rd W u b) (h3 : ∀ j, u.ownBlock = some j → R < j) : BestIs r R (.bool true) W := by
  subst hr
  exact ⟨rfl, u, h1, h2, h3⟩
/-- While a slot's fingerprint is reckoned: what its head tells stays. -/
structure SumAt (w7 : World) (C s : Nat) (V : World) : Prop where
  cell : V.cell? ⟨C, 4, none⟩ = some (.int .u64 (s : Int))
  below : Below w7.heap.size w7 V
  lt : C < w7.heap.size
theorem SumAt.drew {w7 : World} {C s : Nat} {V : World} (h : SumAt w7 C s V) : SumAt w7 C s V.drew := ⟨h.cell, h.below.drew, h.lt⟩
theorem SumAt.on {w7 : World} {C s : Nat} {V V' : World} (h : SumAt w7 C s V) (hb : Below V.heap.size V V') : SumAt w7 C s V' :=
  ⟨(hb.cell (p := ⟨C, 4, none⟩) (Nat.lt_of_lt_of_le h.lt h.below.size)).trans h.cell, h.below.trans (hb.mono h.below.size), h.lt⟩
theorem SumAt.alloc {w7 : World} {C s : Nat} {V : World} (h : SumAt w7 C s V) (o : Obj) : SumAt w7 C s (V.alloc o) := h.on ((Below.refl _ _).alloc (Nat.le_refl _) o)
theorem SumAt.both {w7 : World} {C s : Nat} {V : World} (h : SumAt w7 C s V) : V.cell? ⟨C, 4, none⟩ = some (.int .u64 (s : Int)) ∧ SumAt w7 C s V := ⟨h.cell, h⟩
theorem whole_info : (Tryd.prog.info? 82).map (·.size) = some 3 := by kernel_rfl
noncomputable def body_now : Code := (((Tryd.f45.body.map loopsOf).getD [])[0]?).getD .skip
set_option maxRecDepth 100000 in
set_option maxHeartbeats 4000000 in
theorem now_loop {DC : DiskW} (c1 c4 c5 c6 c7 c8 c9 c10 c11 c12 c14 c15 c16 c17 c18 c19 c20 c21 c22 c23 c24 c25 c26 c27 c28 c29 c30 c31 c32 c33 c34 c35 c36 c37 c38 c39 c40 c41 c42 c43 c44 c45 c46 c47 c48 c49 c50 c51 c52 c53 c54 c55 c56 c57 c58 c59 c60 c61 c62 c63 c64 c65 c66 c67 c68 c69 c70 c71 c72 c73 c74 c75 c76 c77 c78 c79 c80 c81 c82 c83 c84 c85 c86 c87 c88 c89 c90 c91 : Value) {X a k D : Nat} {S : DS} {F : Nat → Prop} (R : Nat) (w w0 : World) (h0 : Hid (SlAt DC w X a k D S F)) (hs : Hid (Salts w)) (hw : Hid (R = w.heap.size)) (hb : Hid (BestIs none R (.bool false) w0 ∧ Below w.heap.size w w0)) {Q : Exit → Act → World → Prop}
    (HQ : Hid (∀ (u4 u5 u6 u7 u8 u9 u10 u11 u12 u14 u15 u16 u17 u18 u19 u20 u21 u22 u23 u24 u25 u26 u27 u28 u29 u30 u31 u32 u33 u34 u35 u36 u37 u38 u39 u40 u41 u42 u43 u44 u45 u46 u47 u48 u49 u50 u51 u52 u53 u54 u55 u56 u57 u58 u59 u60 u61 u62 u63 u64 u65 u66 u67 u68 u69 u70 u71 u72 u73 u74 u75 u76 u77 u78 u79 u80 u81 u82 u83 u84 u85 u86 u87 u88 u89 v y : Value) (W : World), Hid (BestIs (loadS fp8 S a k) R v W ∧ Below w.heap.size w W) → Q (.exit 0) ⟨List.toArray ((.pointer (some ⟨X, 0, none⟩)) :: c1 :: (.pointer (some ⟨R, 0, none⟩)) :: v :: u4 :: u5 :: u6 :: u7 :: u8 :: u9 :: u10 :: u11 :: u12 :: y :: u14 :: u15 :: u16 :: u17 :: u18 :: u19 :: u20 :: u21 :: u22 :: u23 :: u24 :: u25 :: u26 :: u27 :: u28 :: u29 :: u30 :: u31 :: u32 :: u33 :: u34 :: u35 :: u36 :: u37 :: u38 :: u39 :: u40 :: u41 :: u42 :: u43 :: u44 :: u45 :: u46 :: u47 :: u48 :: u49 :: u50 :: u51 :: u52 :: u53 :: u54 :: u55 :: u56 :: u57 :: u58 :: u59 :: u60 :: u61 :: u62 :: u63 :: u64 :: u65 :: u66 :: u67 :: u68 :: u69 :: u70 :: u71 :: u72 :: u73 :: u74 :: u75 :: u76 :: u77 :: u78 :: u79 :: u80 :: u81 :: u82 :: u83 :: u84 :: u85 :: u86 :: u87 :: u88 :: u89 :: c90 :: c91 :: []), []⟩ W)) :
    (Code.loop body_now).wp Tryd.prog Q ⟨List.toArray ((.pointer (some ⟨X, 0, none⟩)) :: c1 :: (.pointer (some ⟨R, 0, none⟩)) :: (.bool false) :: c4 :: c5 :: c6 :: c7 :: c8 :: c9 :: c10 :: c11 :: c12 :: (.int .i64 0) :: c14 :: c15 :: c16 :: c17 :: c18 :: c19 :: c20 :: c21 :: c22 :: c23 :: c24 :: c25 :: c26 :: c27 :: c28 :: c29 :: c30 :: c31 :: c32 :: c33 :: c34 :: c35 :: c36 :: c37 :: c38 :: c39 :: c40 :: c41 :: c42 :: c43 :: c44 :: c45 :: c46 :: c47 :: c48 :: c49 :: c50 :: c51 :: c52 :: c53 :: c54 :: c55 :: c56 :: c57 :: c58 :: c59 :: c60 :: c61 :: c62 :: c63 :: c64 :: c65 :: c66 :: c67 :: c68 :: c69 :: c70 :: c71 :: c72 :: c73 :: c74 :: c75 :: c76 :: c77 :: c78 :: c79 :: c80 :: c81 :: c82 :: c83 :: c84 :: c85 :: c86 :: c87 :: c88 :: c89 :: c90 :: c91 :: []), []⟩ w0 := by
  unfold body_now
  conv => arg 2; arg 1; whnf
  go_loopw [3, 13] (fun v x wx => NowRel S a k w R v x wx) (fun _ x _ => 2 - (intOf x).toNat)
  case atStart => exact ⟨0, rfl, by decide, hb.out.1, hb.out.2⟩
  case round =>
    obtain ⟨i, rfl, hi, hbest, hbel⟩ := hrel
    have hroom := h0.out.room
    have hk1 := h0.out.k1
    by_cases hlt : i < 2
    · have iI : (i : Int) < 2 := by omega
      have HLT := Lib.hid hlt
      have HBE := Lib.hid hbest
      have HBL := Lib.hid hbel
      have A0 : SlAt DC wr X a k D S F := h0.out.on hbel
      have HA := Lib.hid A0
      obtain ⟨q, hq⟩ : ∃ q, q = a + i * k := ⟨_, rfl⟩
      have hik : i * k ≤ 1 * k := Nat.mul_le_mul (by omega) (Nat.le_refl k)
      have hq3 : q < 1024 := by omega
      have HSC : Hid (Calls Tryd.prog 59 #[.pointer (some ⟨X, 0, none⟩), .int .i64 (i : Int), .int .i64 0] wr fun e w' => e = .returned (.int .i64 (q : Int)) ∧ Below wr.heap.size wr w') := Lib.hid (by
        refine (slSector_any A0.pr i 0 (by omega) (by omega) (by omega) (by omega)).mono ?_
        rintro e w' ⟨rfl, m, rfl⟩
        rw [Nat.add_zero, ← hq]
        exact ⟨rfl, below_drewN (Below.refl _ _) m⟩)
      obtain ⟨t, ht⟩ : ∃ t, sectW S.L (q : Int) = t := ⟨_, rfl⟩
      obtain ⟨g, hg⟩ : ∃ g, g = if t then hdOf (sectB S.L (q : Int)) else hd0 := ⟨_, rfl⟩
      have HRD : Hid (∀ W, SlAt DC W X a k D S F → Calls Tryd.prog 58 #[.pointer (some ⟨X, 0, none⟩), .int .i64 (q : Int)] W fun e w' => ∃ u, e = .returned (.tuple #[.agg g.v.toArray, u, .bool t]) ∧ (t = true → Rd w' u ((sectB S.L (q : Int)).drop 24) ∧ ∀ j, u.ownBlock = some j → W.heap.size ≤ j) ∧ Below W.heap.size W w') := Lib.hid fun W hW => slRead_any hW q hq3 t ht g hg
      have HTG : Hid (sectW S.L (q : Int) = t ∧ (g = if t then hdOf (sectB S.L (q : Int)) else hd0)) := Lib.hid ⟨ht, hg⟩
      have HQ0 := Lib.hid hq
      have HZ : Hid (g.v.length = 5) := Lib.hid rfl
      have HZ0 : Hid (hd0.v.length = 5) := Lib.hid rfl
      have HGB : Hid (g.c < 65536 ∧ g.l < 4294967296) := Lib.hid (by
        rw [hg]
        cases t with
        | true => exact ⟨numB_take_lt _ 2, numB_take_lt _ 4⟩
        | false => exact ⟨show 0 < 65536 by decide, show 0 < 4294967296 by decide⟩)
      clear hbest hbel hlt hi hroom hk1 A0 hq hik hq3 ht hg
      go_wp2_with (fail)
      refine HSC.out.mono ?_
      rintro e w1 ⟨rfl, b1⟩
      have A1 := Lib.hid (HA.out.on b1)
      have B1 := Lib.hid b1
      clear b1
      go_wp2_with (fail)
      refine (HRD.out w1 A1.out).mono ?_
      rintro e w2 ⟨u, rfl, ru, b2⟩
      have B2 := Lib.hid (B1.out.trans (b2.mono B1.out.size))
      obtain ⟨C, hC⟩ : ∃ C, w2.heap.size = C := ⟨_, rfl⟩
      have HC2 := Lib.hid hC
      clear ru b2 hC
      go_upto_region 5 with (first
        | (with_reducible refine here_alloc ?_
           refine wpList_alloc_w rfl 98 rfl hd0.v hd_zero C HC2.out ?_
           intro w4 k4 b4 z4
           have K4 := Lib.hid k4
           have B4 := Lib.hid b4
           clear k4 b4 z4)
        | (with_reducible refine here_store ?_
           refine wpList_store_blk rfl 98 _ _ rfl C 98 _ K4.out g.v rfl rfl (by rw [HZ.out, HZ0.out]) (by rw [HZ.out]; exact hd_info) (hd_one _) ?_
           intro w5 k5 s5
           have K5 := Lib.hid k5
           have B5 := Lib.hid (B4.out.trans s5.below)
           clear k5 s5 K4 B4))
      have E5 : Hid (Below wr.heap.size wr w5) := Lib.hid (B2.out.trans (B5.out.mono (by rw [← HC2.out]; exact B2.out.size)))
      have A5 := Lib.hid (HA.out.on E5.out)
      cases t with
      | false =>
        have HNO : Hid (slotOf fp8 (viewS S (a + i * k)) k = none) := Lib.hid (slot_no (by have := h0.out.room; omega) fun g hg => by
          have h1 := hg.first.1
          rw [← HQ0.out, HTG.out.1] at h1
          cases h1)
        go_quiet (fail)
        go_wp2_with (fail)
        have hl := HLT.out
        have HB : BestIs (upS S a k (i + 1)) R u3 (w5.drewN nq) := by
          rw [up_none hl HNO.out]
          exact HBE.out.on (chg_below (F := fun _ => False) (below_drewN E5.out nq)) fun j hj => hj.elim
        exact ⟨⟨i + 1, by go_num, by omega, HB, HBL.out.trans ((below_drewN E5.out nq).mono HBL.out.size)⟩, by simp [intOf]; omega⟩
      | true =>
        obtain ⟨n, i', c, l, s⟩ := g
        have hcl := HGB.out
        have HFI : Hid (∀ W, Calls Tryd.prog 60 #[.agg #[.int .u64 (n : Int), .int .i64 (i' : Int), .int .i64 (c : Int), .int .i64 (l : Int), .int .u64 (s : Int)], .int .i64 (k : Int)] W fun e w' => e = .returned (.bool (fitsB ⟨n, i', c, l, s⟩ k)) ∧ Below W.heap.size W w') := Lib.hid fun W => slFits_any ⟨n, i', c, l, s⟩ k hcl.1 hcl.2 (by have := h0.out.room; omega) W
        obtain ⟨ft, hft⟩ : ∃ ft, fitsB ⟨n, i', c, l, s⟩ k = ft := ⟨_, rfl⟩
        rw [hft] at HFI
        have HFT := Lib.hid hft
        have c0 : ∀ m, (w5.drewN m).cell? ⟨C, 0, none⟩ = some (.int .u64 (n : Int)) := fun m => by rw [(K5.out.drewN m).cell]; rfl
        have c1 : ∀ m, (w5.drewN m).cell? ⟨C, 1, none⟩ = some (.int .i64 (i' : Int)) := fun m => by rw [(K5.out.drewN m).cell]; rfl
        have c2 : ∀ m, (w5.drewN m).cell? ⟨C, 2, none⟩ = some (.int .i64 (c : Int)) := fun m => by rw [(K5.out.drewN m).cell]; rfl
        have c3 : ∀ m, (w5.drewN m).cell? ⟨C, 3, none⟩ = some (.int .i64 (l : Int)) := fun m => by rw [(K5.out.drewN m).cell]; rfl
        have c4 : ∀ m, (w5.drewN m).cell? ⟨C, 4, none⟩ = some (.int .u64 (s : Int)) := fun m => by rw [(K5.out.drewN m).cell]; rfl
        have ck : ∀ m, (w5.drewN m).cell? ⟨X, 2, none⟩ = some (.int .i64 (k : Int)) := fun m => by rw [(A5.out.pr.drewN m).cell]; rfl
        clear hcl hft
        refine wp_quiet_tail 8 (by kernel_rfl) (by kernel_rfl) (by kernel_rfl) (by kernel_rfl) (by kernel_rfl) (by kernel_rfl) (by kernel_rfl) (by kernel_rfl) ?_
        simp only [List.take_succ_cons, List.take_zero, List.drop_succ_cons, List.drop_zero]
        repeat (go_big_quiet_step (fail))
        refine wpQuiet_nil ?_
        intro wq hwq
        obtain ⟨nq, rfl⟩ := hwq
        clear c0 c1 c2 c3 c4 ck
        go_wp2_with (fail)
        refine (HFI.out _).mono ?_
        rintro e w6 ⟨rfl, b6⟩
        have B6 : Hid (Below w5.heap.size w5 w6) := Lib.hid ((below_drewN (Below.refl _ w5) nq).trans b6)
        have E6 : Hid (Below wr.heap.size wr w6) := Lib.hid (E5.out.trans (B6.out.mono E5.out.size))
        clear b6
        cases ft with
        | false =>
          have HNO : Hid (slotOf fp8 (viewS S (a + i * k)) k = none) := Lib.hid (slot_no (by have := h0.out.room; omega) fun g hg => by
            have h1 := hg.first.2
            rw [← HQ0.out] at h1
            have h2 : g = ⟨n, i', c, l, s⟩ := h1.symm.trans HTG.out.2.symm
            subst h2
            have h3 := HFT.out
            unfold fitsB at h3
            rw [decide_eq_true hg.fits.1, Bool.true_and, beq_eq_false_iff_ne] at h3
            exact h3 hg.fits.2)
          go_wp2_with (fail)
          have hl := HLT.out
          have HB : BestIs (upS S a k (i + 1)) R u3 w6 := by
            rw [up_none hl HNO.out]
            exact HBE.out.on (chg_below (F := fun _ => False) E6.out) fun j hj => hj.elim
          exact ⟨⟨i + 1, by go_num, by omega, HB, HBL.out.trans (E6.out.mono HBL.out.size)⟩, by simp [intOf]; omega⟩
        | true =>
          have HCC : Hid (c ≤ k ∧ c = cntS l) := Lib.hid (by
            have h3 := HFT.out
            unfold fitsB at h3
            rw [Bool.and_eq_true, decide_eq_true_eq, beq_iff_eq] at h3
            exact h3)
          have K6 : Hid (Blk w6 C 98 (Hd.v ⟨n, i', c, l, s⟩)) := Lib.hid (K5.out.below B6.out K5.out.lt)
          have c2 : w6.cell? ⟨C, 2, none⟩ = some (.int .i64 (c : Int)) := by rw [K6.out.cell]; rfl
          go_wp2_with (fail)
          have HCW : Hid (w.heap.size ≤ C ∧ R < C ∧ C < w6.heap.size) := Lib.hid (by
            have h1 := HBL.out.size
            have h2 := B2.out.size
            have h3 := HC2.out
            have h4 := hw.out
            have h5 := K6.out.lt
            have h6 : R < wr.heap.size := by
              have h7 := HBE.out
              cases hup : upS S a k i with
              | none =>
                rw [hup] at h7
                exact h7.2.lt
              | some r =>
                rw [hup] at h7
                obtain ⟨_, _, h8, _⟩ := h7
                exact h8.lt
            omega)
          have HND : Hid (∀ g, WhQ S (a + i * k) k g → g = ⟨n, i', c, l, s⟩) := Lib.hid fun g hg => by
            have h1 := hg.first.2
            rw [← HQ0.out] at h1
            exact h1.symm.trans HTG.out.2.symm
          clear c2
          refine nin_loop _ _ _ _ _ _ _ _ _ _ _ _ _ _ _ _ _ _ _ _ _ _ _ _ _ _ _ _ _ _ _ _ _ _ _ _ _ _ _ _ _ _ _ _ _ _ _ _ _ _ _ _ _ _ _ _ _ _ _ _ _ _ _ _ _ _ _ _ _ _ _ _ _ _ _ _ _ _ _ _ _ _ _ _ _ _ C q n c l s i' i w w6 h0 (Lib.hid ⟨HBL.out.trans (E6.out.mono HBL.out.size), HCW.out.1⟩) (Lib.hid ⟨HCC.out.1, by have := HLT.out; omega, HQ0.out⟩) K6 (Lib.hid ?_) (Lib.hid ?_)
          · intro u9 u10 u11 u12 u39 u40 u41 u42 u43 u44 u45 u46 u47 u48 u49 u50 u51 u52 u53 u54 u55 u56 u57 u58 u59 u60 u61 u62 u63 v7 w7 hN
            obtain ⟨g7, cp7, rfl, hcp⟩ : ∃ g7 cp7, v7 = .slice (some ⟨g7, 0, none⟩) (104 * c) cp7 ∧ 104 * c ≤ cp7 := by
              have h1 := HCC.out.2
              have h2 := cntS_pos l
              obtain ⟨g7, cp7, e1, e2, _⟩ := own_form hN.out.row (by omega)
              exact ⟨g7, cp7, e1, e2⟩
            obtain ⟨q104, hq104⟩ : ∃ q104, q104 = 104 * c := ⟨_, rfl⟩
            have hlc : l ≤ q104 := by
              have h1 := cntS_ge l
              rw [← HCC.out.2] at h1
              omega
            have lI : (l : Int) ≤ cp7 := by omega
            have HRL : Hid (Rd w7 (.slice (some ⟨g7, 0, none⟩) l cp7) ((bodyQ S q c).take l)) := Lib.hid (by
              have h1 := Rd.of_own hN.out.row
              exact rd_take h1 l (by rw [bodyQ_length (DC.good h0.out.dk)]; omega))
            obtain ⟨p7, hT7⟩ := hN.out.told
            have T7 := Lib.hid hT7
            have d3 : w7.cell? ⟨C, 3, none⟩ = some (.int .i64 (l : Int)) := by rw [hT7.cell]; rfl
            clear hT7
            rw [← hq104]
            go_upto_region 16 with (fail)
            obtain ⟨bs, hbs⟩ : ∃ bs, bs = (bodyQ S q c).take l := ⟨_, rfl⟩
            obtain ⟨sb, hsb⟩ : ∃ sb, sb = numB (fp8 bs) := ⟨_, rfl⟩
            have HBS := Lib.hid hbs
            have HSB := Lib.hid hsb
            rw [← hbs] at HRL
            have hbl : bs.length ≤ 1000000 := by
              have h1 := h0.out.room
              have h2 := HCC.out.1
              rw [hbs, List.length_take, bodyQ_length (DC.good h0.out.dk)]
              omega
            have HSA : Hid (Salts w7) := Lib.hid (hs.out.under (HBL.out.trans ((E6.out.mono HBL.out.size).trans ((⟨hN.out.chg.os, hN.out.chg.tape, hN.out.chg.output, hN.out.chg.size, fun x hx => hN.out.chg.keep x (by have := HCW.out; omega) fun e => by have e : x = C := e; have := HCW.out; omega⟩ : Below w.heap.size w6 w7)))) hs.out.1)
            have C1 : Hid (∀ V, SumAt w7 C s V → Calls Tryd.prog 62 #[.slice (some ⟨V.heap.size, 0, none⟩) 1 1] (V.alloc (.cells #[.slice (some ⟨g7, 0, none⟩) l cp7] 23)) fun e V' => e = .returned (arrV (shaB bs)) ∧ V'.cell? ⟨C, 4, none⟩ = some (.int .u64 (s : Int)) ∧ SumAt w7 C s V') := Lib.hid fun V hV => by
              have h1 := rs_lone (t := 23) (HRL.out.below hV.below)
              have h2 : Salts (V.alloc (.cells #[.slice (some ⟨g7, 0, none⟩) l cp7] 23)) := (HSA.out.below hV.below).alloc _
              refine (of_any _ [bs] _ h1 (by simpa using hbl) (by simp) h2).mono ?_
              rintro e V' ⟨rfl, hb⟩
              rw [List.flatten_singleton]
              have h3 := hV.on (((Below.refl _ _).alloc (Nat.le_refl _) _).trans (hb.mono (by simp)))
              exact ⟨rfl, h3.cell, h3⟩
            have C1d : Hid (∀ V, SumAt w7 C s V → Calls Tryd.prog 62 #[.slice (some ⟨V.heap.size, 0, none⟩) 1 1] (V.alloc (.cells #[.slice (some ⟨g7, 0, none⟩) l cp7] 23)).drew fun e V' => e = .returned (arrV (shaB bs)) ∧ V'.cell? ⟨C, 4, none⟩ = some (.int .u64 (s : Int)) ∧ SumAt w7 C s V') := Lib.hid fun V hV => C1.out V.drew hV.drew
            have C2 : Hid (∀ V, SumAt w7 C s V → Calls Tryd.prog 61 #[arrV (shaB bs)] V fun e V' => e = .returned (.int .u64 (sb : Int)) ∧ V'.cell? ⟨C, 4, none⟩ = some (.int .u64 (s : Int)) ∧ SumAt w7 C s V') := Lib.hid fun V hV => by
              refine (short_any (shaB bs) V (by simp [shaB, St.bytes, beB_length])).mono ?_
              rintro e V' ⟨rfl, hb⟩
              rw [hsb]
              have h3 := hV.on hb
              exact ⟨rfl, h3.cell, h3⟩
            have S7 : SumAt w7 C s w7 := ⟨by rw [T7.out.cell]; rfl, Below.refl _ _, T7.out.lt⟩
            have hS : w7.cell? ⟨C, 4, none⟩ = some (.int .u64 (s : Int)) ∧ SumAt w7 C s w7 := ⟨S7.cell, S7⟩
            clear hbs hsb hbl d3 hq104 hlc lI
            go_region_held3 (fun V => V.cell? ⟨C, 4, none⟩ = some (.int .u64 (s : Int)) ∧ SumAt w7 C s V) ((refine SumAt.both ?_; (first | assumption | exact SumAt.drew (by assumption) | exact SumAt.alloc (by assumption) _ | exact (SumAt.alloc (by assumption) _).drew)))
              (first
                | (go_at_call 62; refine (C1.out _ ?_).mono ?_; (first | assumption | exact SumAt.drew (by assumption) | exact SumAt.alloc (by assumption) _ | exact (SumAt.alloc (by assumption) _).drew); rintro e v1 ⟨rfl, s1, s2⟩)
                | (go_at_call 62; refine (C1d.out _ ?_).mono ?_; (first | assumption | exact SumAt.drew (by assumption) | exact SumAt.alloc (by assumption) _ | exact (SumAt.alloc (by assumption) _).drew); rintro e v1 ⟨rfl, s1, s2⟩)
                | (go_at_call 61; refine (C2.out _ ?_).mono ?_; (first | assumption | exact SumAt.drew (by assumption) | exact SumAt.alloc (by assumption) _ | exact (SumAt.alloc (by assumption) _).drew); rintro e v2 ⟨rfl, s3, s4⟩))
            have E8 : Hid (Below w7.heap.size w7 v2) := Lib.hid s4.below
            have E78 : Hid (Below w.heap.size w w7 ∧ Below wr.heap.size wr w7) := Lib.hid (by
              have h1 := hN.out.chg
              have h2 := E6.out
              have h3 := HC2.out
              have h4 := B2.out.size
              have h5 : Below wr.heap.size wr w7 := ⟨h1.os.trans h2.os, h1.tape.trans h2.tape, h1.output.trans h2.output, Nat.le_trans h2.size h1.size, fun x hx => (h1.keep x (Nat.lt_of_lt_of_le hx h2.size) fun e => by have e : x = C := e; omega).trans (h2.block x hx)⟩
              exact ⟨HBL.out.trans (h5.mono HBL.out.size), h5⟩)
            have F8 : Hid (Below wr.heap.size wr v2) := Lib.hid (E78.out.2.trans (E8.out.mono E78.out.2.size))
            have K8 : Hid (Blk v2 C 98 (Hd.v ⟨n, p7, c, l, s⟩)) := Lib.hid (T7.out.below E8.out T7.out.lt)
            have BE8 : Hid (BestIs (upS S a k i) R u3 v2) := Lib.hid (HBE.out.on (chg_below (F := fun _ => False) F8.out) fun j hj => hj.elim)
            have R8 : Hid (Rd v2 (.slice (some ⟨g7, 0, none⟩) l cp7) bs) := Lib.hid (HRL.out.below E8.out)
            have HG7 : Hid (R < g7) := Lib.hid (by
              have h1 := (hN.out.row.lt g7 rfl).1
              have h2 := HCW.out
              omega)
            clear s1 s2 s3 s4 hS S7
            by_cases hss : sb = s
            · have g1 : ((sb : Int) == (s : Int)) = true := by rw [hss]; exact beq_self_eq_true _
              have HYES : Hid (slotOf fp8 (viewS S (a + i * k)) k = some (bs, n)) := Lib.hid (by
                have h1 := HTG.out
                have h2 : WhQ S q k ⟨n, i', c, l, s⟩ := ⟨⟨h1.1, h1.2.symm⟩, HCC.out, hN.out.good, by
                  show numB (fp8 ((bodyQ S q c).take l)) = s
                  rw [← HBS.out, ← HSB.out, hss]⟩
                have h3 := slot_yes (DC.good h0.out.dk) h2 (by have := h0.out.room; omega)
                rw [← HQ0.out, HBS.out]
                exact h3)
              have d0 : v2.cell? ⟨C, 0, none⟩ = some (.int .u64 (n : Int)) := by rw [K8.out.cell]; rfl
              clear hss
              cases hup : upS S a k i with
              | none =>
                have HUP : Hid (upS S a k (i + 1) = some (bs, n, i)) := Lib.hid (up_first HLT.out HYES.out hup)
                have h1 := BE8.out
                rw [hup] at h1
                obtain ⟨rfl, h2⟩ := h1
                have BR := Lib.hid h2
                clear h2 hup
                go_wp2_with (first
                  | (with_reducible refine here_store ?_
                     refine wpList_store_blk rfl 82 _ _ rfl R 82 _ BR.out (wholeV i n (.slice (some ⟨g7, 0, none⟩) l cp7)) rfl rfl rfl whole_info (by intro v hv; unfold wholeV at hv; simp only [List.mem_cons, List.not_mem_nil, or_false] at hv; rcases hv with rfl | rfl | rfl <;> rfl) ?_
                     intro w9 k9 s9
                     have K9 := Lib.hid k9
                     have S9 := Lib.hid s9
                     clear k9 s9))
                have hl := HLT.out
                have HB : BestIs (upS S a k (i + 1)) R (.bool true) w9 := best_new HUP.out K9.out (chg_rd0 (sole_only S9.out) R8.out fun _ j hj e => by
                  have e1 : j = R := e
                  have e2 : some g7 = some j := hj
                  injection e2 with e2
                  have := HG7.out
                  omega) (fun j hj => by
                  have e2 : some g7 = some j := hj
                  injection e2 with e2
                  have := HG7.out
                  omega)
                have hBW : Below w.heap.size v2 w9 := S9.out.below.mono (Nat.le_of_eq hw.out.symm)
                exact ⟨⟨i + 1, by go_num, by omega, HB, (E78.out.1.trans (E8.out.mono E78.out.1.size)).trans hBW⟩, by simp [intOf]; omega⟩
              | some r =>
                obtain ⟨cb, m, sl⟩ := r
                have h1 := BE8.out
                rw [hup] at h1
                obtain ⟨rfl, ub, h2, _⟩ := h1
                have BR := Lib.hid h2
                have d1 : v2.cell? ⟨R, 1, none⟩ = some (.int .u64 (m : Int)) := by rw [h2.cell]; rfl
                have hu2 := up_two HLT.out HYES.out hup
                have HU := Lib.hid hup
                clear h2 hup
                by_cases hmn : m < n
                · have g2 : decide ((m : Int) < (n : Int)) = true := decide_eq_true (by omega)
                  have g3 : decide (m < n) = true := decide_eq_true hmn
                  rw [if_pos hmn] at hu2
                  have HUP := Lib.hid hu2
                  clear hu2 hmn
                  go_wp2_with (first
                    | (with_reducible refine here_store ?_
                       refine wpList_store_blk rfl 82 _ _ rfl R 82 _ BR.out (wholeV i n (.slice (some ⟨g7, 0, none⟩) l cp7)) rfl rfl rfl whole_info (by intro v hv; unfold wholeV at hv; simp only [List.mem_cons, List.not_mem_nil, or_false] at hv; rcases hv with rfl | rfl | rfl <;> rfl) ?_
                       intro w9 k9 s9
                       have K9 := Lib.hid k9
                       have S9 := Lib.hid s9
                       clear k9 s9))
                  have hl := HLT.out
                  have HB : BestIs (upS S a k (i + 1)) R (.bool true) w9 := best_new HUP.out K9.out (chg_rd0 (sole_only S9.out) R8.out fun _ j hj e => by
                    have e1 : j = R := e
                    have e2 : some g7 = some j := hj
                    injection e2 with e2
                    have := HG7.out
                    omega) (fun j hj => by
                    have e2 : some g7 = some j := hj
                    injection e2 with e2
                    have := HG7.out
                    omega)
                  have hBW : Below w.heap.size v2 w9 := S9.out.below.mono (Nat.le_of_eq hw.out.symm)
                  exact ⟨⟨i + 1, by go_num, by omega, HB, (E78.out.1.trans (E8.out.mono E78.out.1.size)).trans hBW⟩, by simp [intOf]; omega⟩
                · have g2 : decide ((m : Int) < (n : Int)) = false := decide_eq_false (by omega)
                  have g3 : decide (m < n) = false := decide_eq_false hmn
                  rw [if_neg hmn] at hu2
                  have HUP := Lib.hid hu2
                  clear hu2 hmn
                  go_wp2_with (fail)
                  have hl := HLT.out
                  have HB : BestIs (upS S a k (i + 1)) R (.bool true) v2 := by
                    rw [HUP.out]
                    exact BE8.out
                  exact ⟨⟨i + 1, by go_num, by omega, HB, E78.out.1.trans (E8.out.mono E78.out.1.size)⟩, by simp [intOf]; omega⟩
            · have g1 : ((sb : Int) == (s : Int)) = false := by rw [beq_eq_false_iff_ne]; omega
              have HNO : Hid (slotOf fp8 (viewS S (a + i * k)) k = none) := Lib.hid (slot_no (by have := h0.out.room; omega) fun g hg => by
                have h1 := HND.out g hg
                subst h1
                have h2 := hg.sum
                rw [← HQ0.out] at h2
                have h2 : numB (fp8 ((bodyQ S q c).take l)) = s := h2
                rw [← HBS.out, ← HSB.out] at h2
                exact hss h2)
              clear hss
              go_wp2_with (fail)
              have hl := HLT.out
              have HB : BestIs (upS S a k (i + 1)) R u3 v2 := by
                rw [up_none hl HNO.out]
                exact BE8.out
              exact ⟨⟨i + 1, by go_num, by omega, HB, E78.out.1.trans (E8.out.mono E78.out.1.size)⟩, by simp [intOf]; omega⟩
          · intro u8 u9 u10 u11 u12 u38 u39 u40 u41 u42 u43 u44 u45 u46 u47 u48 u49 u50 u51 u52 u53 u54 u55 u56 u57 u58 u59 u60 u61 u62 u63 w7 hC
            have HNO : Hid (slotOf fp8 (viewS S (a + i * k)) k = none) := Lib.hid (slot_no (by have := h0.out.room; omega) fun g hg => by
              have h1 := HND.out g hg
              subst h1
              obtain ⟨⟨j, h2, h3⟩, _⟩ := hC.out
              rw [HQ0.out] at h3
              exact h3 (hg.good j h2))
            have HB7 : Hid (Below wr.heap.size wr w7) := Lib.hid (by
              have h1 := hC.out.2
              have h2 := E6.out
              refine ⟨h1.os.trans h2.os, h1.tape.trans h2.tape, h1.output.trans h2.output, Nat.le_trans h2.size h1.size, fun x hx => (h1.keep x (Nat.lt_of_lt_of_le hx h2.size) fun e => ?_).trans (h2.block x hx)⟩
              have e : x = C := e
              have h3 := HC2.out
              have h4 := B2.out.size
              omega)
            go_wp2_with (fail)
            have hl := HLT.out
            have HB : BestIs (upS S a k (i + 1)) R u3 w7 := by
              rw [up_none hl HNO.out]
              exact HBE.out.on (chg_below (F := fun _ => False) HB7.out) fun j hj => hj.elim
            exact ⟨⟨i + 1, by go_num, by omega, HB, HBL.out.trans (HB7.out.mono HBL.out.size)⟩, by simp [intOf]; omega⟩
    · obtain rfl : i = 2 := by omega
      have HE := Lib.hid (show BestIs (loadS fp8 S a k) R u3 wr ∧ Below w.heap.size w wr from ⟨hbest, hbel⟩)
      clear hbest hbel
      go_wp2_with (fail)
      exact HQ.out _ _ _ _ _ _ _ _ _ _ _ _ _ _ _ _ _ _ _ _ _ _ _ _ _ _ _ _ _ _ _ _ _ _ _ _ _ _ _ _ _ _ _ _ _ _ _ _ _ _ _ _ _ _ _ _ _ _ _ _ _ _ _ _ _ _ _ _ _ _ _ _ _ _ _ _ _ _ _ _ _ _ _ _ _ u3 _ _ HE
end Go.Proofs.YtbodiioemohenaaDoor

/- The developers' newest and Load. Premise: the disk's contracts. -/
namespace Go.Proofs.YtbodiioemohenaaDoor
open Go.RowKit

def NewAns (w w' : World) (r : Option (List UInt8 × Nat × Nat)) (e : Ending) : Prop :=
  match r with
  | none => e = .returned (.tuple #[.agg (wholeV 0 0 (.slice none 0 0)).toArray, .bool false])
  | some (b, n, s) => ∃ u, e = .returned (.tuple #[.agg (wholeV s n u).toArray, .bool true]) ∧ Rd w' u b ∧ ∀ j, u.ownBlock = some j → w.heap.size ≤ j
theorem whole_zero : (Tryd.prog.info? 82).bind (·.zero) = some (.agg (wholeV 0 0 (.slice none 0 0)).toArray) := by kernel_rfl
theorem rd_slice {w : World} {u : Value} {b : List UInt8} (h : Rd w u b) : u.oneCell' = true := by
  obtain ⟨A, c, rfl, _⟩ := h.form
  rfl
theorem wholeV_one {s n : Nat} {u : Value} (hu : u.oneCell' = true) : ∀ v ∈ wholeV s n u, v.oneCell' = true := by
  intro v hv
  unfold wholeV at hv
  simp only [List.mem_cons, List.not_mem_nil, or_false] at hv
  rcases hv with rfl | rfl | rfl
  · rfl
  · rfl
  · exact hu
set_option maxRecDepth 100000 in
set_option maxHeartbeats 2000000 in
theorem slNewest_any {DC : DiskW} {w : World} {X a k D : Nat} {S : DS} {F : Nat → Prop} (h : SlAt DC w X a k D S F) (hs : Salts w) :
    Calls Tryd.prog 45 #[.pointer (some ⟨X, 0, none⟩)] w fun e w' => NewAns w w' (loadS fp8 S a k) e ∧ Below w.heap.size w w' := by
  have HH := Lib.hid h
  have HS := Lib.hid hs
  obtain ⟨R, hR⟩ : ∃ R, w.heap.size = R := ⟨_, rfl⟩
  have HR := Lib.hid hR
  clear h hs hR
  go_enter Tryd.func45, Tryd.ntmps45
  go_upto_region 1 with (first
    | (with_reducible refine here_alloc ?_
       refine wpList_alloc_w rfl 82 rfl (wholeV 0 0 (.slice none 0 0)) whole_zero R HR.out ?_
       intro w1 k1 b1 z1
       have K1 := Lib.hid k1
       have B1 := Lib.hid b1
       clear k1 b1 z1))
  go_step3
  go_wp2_with (fail)
  go_step3
  go_wp2_with (fail)
  refine now_loop _ _ _ _ _ _ _ _ _ _ _ _ _ _ _ _ _ _ _ _ _ _ _ _ _ _ _ _ _ _ _ _ _ _ _ _ _ _ _ _ _ _ _ _ _ _ _ _ _ _ _ _ _ _ _ _ _ _ _ _ _ _ _ _ _ _ _ _ _ _ _ _ _ _ _ _ _ _ _ _ _ _ _ _ _ _ _ _ R w w1 HH HS (Lib.hid HR.out.symm) (Lib.hid ⟨⟨rfl, K1.out⟩, HR.out.symm ▸ B1.out⟩) (Lib.hid ?_)
  intro u4 u5 u6 u7 u8 u9 u10 u11 u12 u14 u15 u16 u17 u18 u19 u20 u21 u22 u23 u24 u25 u26 u27 u28 u29 u30 u31 u32 u33 u34 u35 u36 u37 u38 u39 u40 u41 u42 u43 u44 u45 u46 u47 u48 u49 u50 u51 u52 u53 u54 u55 u56 u57 u58 u59 u60 u61 u62 u63 u64 u65 u66 u67 u68 u69 u70 u71 u72 u73 u74 u75 u76 u77 u78 u79 u80 u81 u82 u83 u84 u85 u86 u87 u88 u89 v y w2 hb
  have HB2 := Lib.hid hb.out.2
  cases hr : loadS fp8 S a k with
  | none =>
    have h1 := hb.out.1
    rw [hr] at h1
    obtain ⟨rfl, h2⟩ := h1
    have K2 := Lib.hid h2
    have HR2 := Lib.hid hr
    clear hb h2 hr
    go_wp2_with (first
      | (with_reducible refine here_load ?_
         refine wpList_load_blk rfl 82 _ rfl R rfl 82 (wholeV 0 0 (.slice none 0 0)) _ K2.out Tryd.underlying82 rfl whole_info ?_)
      | (with_reducible refine here_store ?_
         refine wpList_store_blk rfl 82 _ _ rfl R 82 _ K2.out (wholeV 0 0 (.slice none 0 0)) rfl rfl rfl whole_info (wholeV_one rfl) ?_
         intro w9 k9 s9
         have K9 := Lib.hid k9
         have S9 := Lib.hid s9
         clear k9 s9))
    rw [Exit.noGoto_ret]
    have hw := HR.out
    refine bodyPost_ret (results_blk_tmp (ty := 82) Tryd.results45 _ _ R 82 (wholeV 0 0 (.slice none 0 0)) _ _ rfl rfl K9.out Tryd.underlying82 rfl whole_info) rfl ?_
    rw [HR2.out]
    exact ⟨rfl, HB2.out.trans (S9.out.below.mono (Nat.le_of_eq hw))⟩
  | some r =>
    obtain ⟨b, n, sl⟩ := r
    have h1 := hb.out.1
    rw [hr] at h1
    obtain ⟨rfl, u, h2, h3, h4⟩ := h1
    have K2 := Lib.hid h2
    have R2 := Lib.hid h3
    have O2 := Lib.hid h4
    have HR2 := Lib.hid hr
    clear hb h2 h3 h4 hr
    go_wp2_with (first
      | (with_reducible refine here_load ?_
         refine wpList_load_blk rfl 82 _ rfl R rfl 82 (wholeV sl n u) _ K2.out Tryd.underlying82 rfl whole_info ?_)
      | (with_reducible refine here_store ?_
         refine wpList_store_blk rfl 82 _ _ rfl R 82 _ K2.out (wholeV sl n u) rfl rfl rfl whole_info (wholeV_one (rd_slice R2.out)) ?_
         intro w9 k9 s9
         have K9 := Lib.hid k9
         have S9 := Lib.hid s9
         clear k9 s9))
    rw [Exit.noGoto_ret]
    have hw := HR.out
    refine bodyPost_ret (results_blk_tmp (ty := 82) Tryd.results45 _ _ R 82 (wholeV sl n u) _ _ rfl rfl K9.out Tryd.underlying82 rfl whole_info) rfl ?_
    rw [HR2.out]
    refine ⟨⟨u, rfl, ?_, fun j hj => by have := O2.out j hj; omega⟩, HB2.out.trans (S9.out.below.mono (Nat.le_of_eq hw))⟩
    exact chg_rd0 (sole_only S9.out) R2.out fun _ j hj e => by
      have := O2.out j hj
      have e1 : j = R := e
      omega
set_option maxRecDepth 100000 in
set_option maxHeartbeats 2000000 in
theorem slLoad_any {DC : DiskW} {w : World} {X a k D : Nat} {S : DS} {F : Nat → Prop} (h : SlAt DC w X a k D S F) (hs : Salts w) :
    Calls Tryd.prog 31 #[.pointer (some ⟨X, 0, none⟩)] w fun e w' => LoadAns w w' (loadS fp8 S a k) e ∧ Below w.heap.size w w' := by
  have HH := Lib.hid h
  have HS := Lib.hid hs
  clear h hs
  go_enter Tryd.func31, Tryd.ntmps31
  go_wp2_with (fail)
  refine (slIsNone_any HH.out.pr).mono ?_
  rintro e w1 ⟨rfl, rfl⟩
  go_wp2_with (fail)
  refine (slNewest_any HH.out HS.out).mono ?_
  rintro e w2 ⟨ha, hb⟩
  have B2 := Lib.hid hb
  obtain ⟨C, hC⟩ : ∃ C, w2.heap.size = C := ⟨_, rfl⟩
  have HC := Lib.hid hC
  clear hb hC
  cases hr : loadS fp8 S a k with
  | none =>
    rw [hr] at ha
    obtain rfl := ha
    have HR2 := Lib.hid hr
    clear hr
    go_wp2_with (first
      | (with_reducible refine here_alloc ?_
         refine wpList_alloc_w rfl 82 rfl (wholeV 0 0 (.slice none 0 0)) whole_zero C HC.out ?_
         intro w4 k4 b4 z4
         have K4 := Lib.hid k4
         have B4 := Lib.hid b4
         clear k4 b4 z4)
      | (with_reducible refine here_store ?_
         refine wpList_store_blk rfl 82 _ _ rfl C 82 _ K4.out (wholeV 0 0 (.slice none 0 0)) rfl rfl rfl whole_info (wholeV_one rfl) ?_
         intro w5 k5 s5
         have B5 := Lib.hid (B4.out.trans s5.below)
         clear k5 s5))
    go_returns
    rw [HR2.out]
    exact ⟨⟨_, _, rfl⟩, B2.out.trans (B5.out.mono (by rw [← HC.out]; exact B2.out.size))⟩
  | some r =>
    obtain ⟨b, n, sl⟩ := r
    rw [hr] at ha
    obtain ⟨u, rfl, h3, h4⟩ := ha
    have R2 := Lib.hid h3
    have O2 := Lib.hid h4
    have HR2 := Lib.hid hr
    clear hr h3 h4
    go_upto_region 6 with (first
      | (with_reducible refine here_alloc ?_
         refine wpList_alloc_w rfl 82 rfl (wholeV 0 0 (.slice none 0 0)) whole_zero C HC.out ?_
         intro w4 k4 b4 z4
         have K4 := Lib.hid k4
         have B4 := Lib.hid b4
         clear k4 b4 z4)
      | (with_reducible refine here_store ?_
         refine wpList_store_blk rfl 82 _ _ rfl C 82 _ K4.out (wholeV sl n u) rfl rfl rfl whole_info (wholeV_one (rd_slice R2.out)) ?_
         intro w5 k5 s5
         have K5 := Lib.hid k5
         have B5 := Lib.hid (B4.out.trans s5.below)
         clear k5 s5))
    have c2 : ∀ m, (w5.drewN m).cell? ⟨C, 2, none⟩ = some u := fun m => by rw [(K5.out.drewN m).cell]; rfl
    have c1 : ∀ m, (w5.drewN m).cell? ⟨C, 1, none⟩ = some (.int .u64 (n : Int)) := fun m => by rw [(K5.out.drewN m).cell]; rfl
    go_quiet (fail)
    go_wp2_with (fail)
    go_returns
    have h5 : Below w2.heap.size w2 (w5.drewN nq) := HC.out ▸ below_drewN B5.out nq
    rw [HR2.out]
    exact ⟨⟨u, rfl, R2.out.below h5, O2.out⟩, B2.out.trans (h5.mono B2.out.size)⟩
end Go.Proofs.YtbodiioemohenaaDoor

/- The developers' greatest: the greatest number that a sector of the pair tells. Premise: the disk's contracts. -/
namespace Go.Proofs.YtbodiioemohenaaDoor
open Go.RowKit

def mostUp (S : DS) (a i : Nat) : Nat := (List.range i).foldl (fun m i => max m ((viewS S a i).elim 0 numOf)) 0
theorem mostUp_succ (S : DS) (a i : Nat) : mostUp S a (i + 1) = max (mostUp S a i) ((viewS S a i).elim 0 numOf) := by
  unfold mostUp
  rw [List.range_succ, List.foldl_append]
  rfl
theorem view_num {S : DS} {a i : Nat} {t : Bool} (ht : sectW S.L ((a + i : Nat) : Int) = t) : (viewS S a i).elim 0 numOf = if t then (hdOf (sectB S.L ((a + i : Nat) : Int))).n else 0 := by
  unfold viewS
  rw [ht]
  cases t with
  | true => rfl
  | false => rfl
theorem mostUp_lt (S : DS) (a : Nat) : ∀ i, mostUp S a i < 256 ^ 8
  | 0 => (show 0 < 256 ^ 8 by decide)
  | i + 1 => by
    rw [mostUp_succ]
    have h1 := mostUp_lt S a i
    have h2 : (viewS S a i).elim 0 numOf < 256 ^ 8 := by
      cases viewS S a i with
      | none => exact (show 0 < 256 ^ 8 by decide)
      | some x => exact numB_take_lt x 8
    omega
def GreRel (S : DS) (a k : Nat) (w : World) (v x : Value) (W : World) : Prop := ∃ i m : Nat, x = .int .i64 (i : Int) ∧ i ≤ 2 * k ∧ v = .int .u64 (m : Int) ∧ m = mostUp S a i ∧ Below w.heap.size w W
noncomputable def body_gre : Code := (((Tryd.f49.body.map loopsOf).getD [])[0]?).getD .skip
set_option maxRecDepth 100000 in
set_option maxHeartbeats 4000000 in
theorem gre_loop {DC : DiskW} (c1 c2 c4 c5 c6 c7 c8 c9 c10 c11 c14 c15 c16 c17 c18 c19 c20 c21 c22 c23 c24 c25 c26 c27 c28 c29 c30 c31 c32 c33 c34 : Value) {X a k D : Nat} {S : DS} {F : Nat → Prop} (w : World) (h0 : Hid (SlAt DC w X a k D S F)) {Q : Exit → Act → World → Prop}
    (HQ : Hid (∀ (u4 u5 u6 u7 u14 u15 u16 u17 u18 u19 u20 u21 u22 u23 u24 u25 u26 u27 u28 u29 u30 u31 u32 u33 v y : Value) (W : World), Hid (v = .int .u64 (mostS S a k : Int) ∧ Below w.heap.size w W) → Q (.exit 0) ⟨List.toArray ((.pointer (some ⟨X, 0, none⟩)) :: c1 :: c2 :: v :: u4 :: u5 :: u6 :: u7 :: c8 :: c9 :: c10 :: c11 :: (.int .i64 ((2 * k : Nat) : Int)) :: y :: u14 :: u15 :: u16 :: u17 :: u18 :: u19 :: u20 :: u21 :: u22 :: u23 :: u24 :: u25 :: u26 :: u27 :: u28 :: u29 :: u30 :: u31 :: u32 :: u33 :: c34 :: []), []⟩ W)) :
    (Code.loop body_gre).wp Tryd.prog Q ⟨List.toArray ((.pointer (some ⟨X, 0, none⟩)) :: c1 :: c2 :: (.int .u64 0) :: c4 :: c5 :: c6 :: c7 :: c8 :: c9 :: c10 :: c11 :: (.int .i64 ((2 * k : Nat) : Int)) :: (.int .i64 0) :: c14 :: c15 :: c16 :: c17 :: c18 :: c19 :: c20 :: c21 :: c22 :: c23 :: c24 :: c25 :: c26 :: c27 :: c28 :: c29 :: c30 :: c31 :: c32 :: c33 :: c34 :: []), []⟩ w := by
  unfold body_gre
  conv => arg 2; arg 1; whnf
  go_loopw [3, 13] (fun v x wx => GreRel S a k w v x wx) (fun _ x _ => 2 * k - (intOf x).toNat)
  case atStart => exact ⟨0, 0, rfl, Nat.zero_le _, rfl, rfl, Below.refl _ _⟩
  case round =>
    obtain ⟨i, m, rfl, hi, rfl, hm, hbel⟩ := hrel
    have hroom := h0.out.room
    obtain ⟨kk, hkk⟩ : ∃ kk, kk = 2 * k := ⟨_, rfl⟩
    have HKK := Lib.hid hkk
    rw [← hkk] at hi hroom ⊢
    have kI : (kk : Int) ≤ 1024 := by omega
    have HM := Lib.hid hm
    have hml := mostUp_lt S a i
    rw [← hm] at hml
    clear hm
    by_cases hlt : i < kk
    · have iI : (i : Int) < kk := by omega
      have HLT := Lib.hid hlt
      have HBL := Lib.hid hbel
      have A0 : SlAt DC wr X a k D S F := h0.out.on hbel
      have HA := Lib.hid A0
      obtain ⟨q, hq⟩ : ∃ q, q = a + i := ⟨_, rfl⟩
      have hq3 : q < 1024 := by omega
      have e1 : IntKind.i64.wrap ((a : Int) + (i : Int)) = (q : Int) := by rw [IntWalk.i64_in _ (by omega), hq]; omega
      have ca : wr.cell? ⟨X, 1, none⟩ = some (.int .i64 (a : Int)) := by rw [A0.pr.cell]; rfl
      obtain ⟨t, ht⟩ : ∃ t, sectW S.L (q : Int) = t := ⟨_, rfl⟩
      obtain ⟨g, hg⟩ : ∃ g, g = if t then hdOf (sectB S.L (q : Int)) else hd0 := ⟨_, rfl⟩
      have HRD : Hid (∀ W, SlAt DC W X a k D S F → Calls Tryd.prog 58 #[.pointer (some ⟨X, 0, none⟩), .int .i64 (q : Int)] W fun e w' => ∃ u, e = .returned (.tuple #[.agg g.v.toArray, u, .bool t]) ∧ (t = true → Rd w' u ((sectB S.L (q : Int)).drop 24) ∧ ∀ j, u.ownBlock = some j → W.heap.size ≤ j) ∧ Below W.heap.size W w') := Lib.hid fun W hW => slRead_any hW q hq3 t ht g hg
      obtain ⟨z, hz⟩ : ∃ z, z = g.n := ⟨_, rfl⟩
      have hzl : z < 256 ^ 8 := by
        rw [hz, hg]
        cases t with
        | true => exact numB_take_lt _ 8
        | false => exact (show 0 < 256 ^ 8 by decide)
      have HUP : Hid (mostUp S a (i + 1) = max m (if t then z else 0)) := Lib.hid (by
        rw [mostUp_succ, ← HM.out]
        congr 1
        rw [view_num (t := t) (by rw [← hq]; exact ht), ← hq, hz, hg]
        cases t <;> rfl)
      have HZN := Lib.hid hz
      have HZ : Hid (g.v.length = 5) := Lib.hid rfl
      have HZ0 : Hid (hd0.v.length = 5) := Lib.hid rfl
      clear hlt hi hroom A0 hq hq3 ht hg hz hbel hkk
      go_wp2_with (fail)
      refine (HRD.out wr HA.out).mono ?_
      rintro e w2 ⟨u, rfl, ru, b2⟩
      have B2 := Lib.hid b2
      obtain ⟨C, hC⟩ : ∃ C, w2.heap.size = C := ⟨_, rfl⟩
      have HC2 := Lib.hid hC
      clear ru b2 hC ca e1
      go_upto_region 6 with (first
        | (with_reducible refine here_alloc ?_
           refine wpList_alloc_w rfl 98 rfl hd0.v hd_zero C HC2.out ?_
           intro w4 k4 b4 z4
           have K4 := Lib.hid k4
           have B4 := Lib.hid b4
           clear k4 b4 z4)
        | (with_reducible refine here_store ?_
           refine wpList_store_blk rfl 98 _ _ rfl C 98 _ K4.out g.v rfl rfl (by rw [HZ.out, HZ0.out]) (by rw [HZ.out]; exact hd_info) (hd_one _) ?_
           intro w5 k5 s5
           have K5 := Lib.hid k5
           have B5 := Lib.hid (B4.out.trans s5.below)
           clear k5 s5 K4 B4))
      have E5 : Hid (Below w.heap.size w w5) := Lib.hid (HBL.out.trans ((B2.out.trans (B5.out.mono (by rw [← HC2.out]; exact B2.out.size))).mono HBL.out.size))
      have c0 : w5.cell? ⟨C, 0, none⟩ = some (.int .u64 (z : Int)) := by rw [K5.out.cell, HZN.out]; rfl
      cases t with
      | false =>
        go_wp2_with (fail)
        have hl := HLT.out
        have hu := HUP.out
        rw [if_neg (by decide)] at hu
        have hk := HKK.out
        exact ⟨⟨i + 1, m, by go_num, by omega, rfl, by omega, E5.out⟩, by simp [intOf]; omega⟩
      | true =>
        go_wp2_with (fail)
        have hl := HLT.out
        have hu := HUP.out
        rw [if_pos rfl] at hu
        have hk := HKK.out
        refine ⟨⟨i + 1, max m z, by go_num, by omega, ?_, hu.symm, E5.out⟩, by simp [intOf]; omega⟩
        congr 1
        by_cases h : m < z
        · rw [if_pos h, Nat.max_eq_right (by omega)]
        · rw [if_neg h, Nat.max_eq_left (by omega)]
    · obtain rfl : i = kk := by omega
      have HE : Hid (.int .u64 (m : Int) = Value.int .u64 (mostS S a k : Int) ∧ Below w.heap.size w wr) := Lib.hid ⟨by rw [HM.out, HKK.out]; rfl, hbel⟩
      clear hbel hi hlt
      go_wp2_with (fail)
      have hq := HQ.out
      rw [← HKK.out] at hq
      exact hq _ _ _ _ _ _ _ _ _ _ _ _ _ _ _ _ _ _ _ _ _ _ _ _ _ _ _ HE
set_option maxRecDepth 100000 in
set_option maxHeartbeats 2000000 in
theorem slGreatest_any {DC : DiskW} {w : World} {X a k D : Nat} {S : DS} {F : Nat → Prop} (h : SlAt DC w X a k D S F) :
    Calls Tryd.prog 49 #[.pointer (some ⟨X, 0, none⟩)] w fun e w' => e = .returned (.int .u64 (mostS S a k : Int)) ∧ Below w.heap.size w w' := by
  have c2 : w.cell? ⟨X, 2, none⟩ = some (.int .i64 (k : Int)) := by rw [h.pr.cell]; rfl
  have e1 : IntKind.i64.wrap (2 * (k : Int)) = ((2 * k : Nat) : Int) := by
    have := h.room
    rw [IntWalk.i64_in _ (by omega)]
    omega
  have HH := Lib.hid h
  obtain ⟨q, hq⟩ : ∃ q, q = 2 * k := ⟨_, rfl⟩
  rw [← hq] at e1
  have HQ := Lib.hid hq
  clear h hq
  go_enter Tryd.func49, Tryd.ntmps49
  go_wp2_with (fail)
  obtain rfl := HQ.out
  refine gre_loop _ _ _ _ _ _ _ _ _ _ _ _ _ _ _ _ _ _ _ _ _ _ _ _ _ _ _ _ _ _ _ w HH (Lib.hid ?_)
  intro u4 u5 u6 u7 u14 u15 u16 u17 u18 u19 u20 u21 u22 u23 u24 u25 u26 u27 u28 u29 u30 u31 u32 u33 v y w2 hb
  obtain ⟨rfl, hb2⟩ := hb.out
  have HB := Lib.hid hb2
  clear hb hb2 c2 e1
  go_wp2_with (fail)
  go_ret
  exact ⟨rfl, HB.out⟩
end Go.Proofs.YtbodiioemohenaaDoor
