/- Part 16 of the words that the laws share: RefBlkD. No condition of its own: each theorem says its own. -/
import Derived.Test.YtmoffodmbbkolaaDoorPart13
import Derived.Test.YtmoffodmbbkolaaDoorPart8
import Derived.Deep.DrawnRows
import Derived.Deep.RegionHeld3

/- The fourth reference's Block: the loop that lays the sums. Condition: sixteen words that fit, twice. -/
namespace Go.Proofs.YtmoffodmbbkolaaDoor
open Go.RowKit
attribute [local go_sem ↓] Go.wp_at_zero Go.wp_at_succ

/-- What the loop reads, and what it has laid. -/
structure OutS (w : World) (gs G : Nat) (s ws : List Nat) (o : Value) (j : Nat) (W : World) : Prop where
  s0 : ∀ i, i < 16 → W.cell? ⟨gs, i, none⟩ = some (.int .u32 ((s.getD i 0 : Nat) : Int))
  w0 : ∀ i, i < 16 → W.cell? ⟨G, i, none⟩ = some (.int .u32 ((ws.getD i 0 : Nat) : Int))
  sl : gs < w.heap.size
  wl : G < w.heap.size
  own : W.ownsRow w.heap.size 5 1 o (4 * j) ((chaOut s ws j).map bv)
  below : Below w.heap.size w W
def OutRel (w : World) (gs G : Nat) (s ws : List Nat) (o i : Value) (W : World) : Prop :=
  ∃ j : Nat, i = .int .i64 (j : Int) ∧ j ≤ 16 ∧ OutS w gs G s ws o j W
section
variable {w V : World} {gs G : Nat} {s ws : List Nat} {o : Value} {j : Nat}
theorem OutS.on (h : OutS w gs G s ws o j V) {V' : World} (hb : Below V.heap.size V V') : OutS w gs G s ws o j V' :=
  ⟨fun i hi => (hb.cell (p := ⟨gs, i, none⟩) (Nat.lt_of_lt_of_le h.sl h.below.size)).trans (h.s0 i hi), fun i hi => (hb.cell (p := ⟨G, i, none⟩) (Nat.lt_of_lt_of_le h.wl h.below.size)).trans (h.w0 i hi), h.sl, h.wl, own_lain h.own hb, h.below.trans (hb.mono h.below.size)⟩
theorem OutS.bi (h : OutS w gs G s ws o j V) {i : Nat} (hj : i < 16) {x y : Nat} (hx : Hid (x = ws.getD i 0)) (hy : Hid (y = s.getD i 0)) : V.cell? ⟨G, i, none⟩ = some (.int .u32 ((x : Nat) : Int)) ∧ V.cell? ⟨gs, i, none⟩ = some (.int .u32 ((y : Nat) : Int)) :=
  ⟨by rw [hx.out]; exact h.w0 i hj, by rw [hy.out]; exact h.s0 i hj⟩
theorem OutS.next (h : OutS w gs G s ws o j V) {V' : World} {o' : Value} {N : Nat} (hN : leB 4 N = leB 4 ((ws.getD j 0 + s.getD j 0) % 4294967296)) (ho : V'.ownsRow w.heap.size 5 1 o' (4 * j + (leB 4 N).length) ((chaOut s ws j).map bv ++ (leB 4 N).map bv)) (hg : V.grownBy V' o.ownBlock) : OutS w gs G s ws o' (j + 1) V' := by
  have hb : Below w.heap.size V V' := (Below.refl _ _).grown hg h.below.size (own_ge h.own)
  refine ⟨fun i hi => (hb.cell (p := ⟨gs, i, none⟩) h.sl).trans (h.s0 i hi), fun i hi => (hb.cell (p := ⟨G, i, none⟩) h.wl).trans (h.w0 i hi), h.sl, h.wl, ?_, h.below.trans hb⟩
  rw [leB_length, ← List.map_append, hN] at ho
  exact ho
theorem OutS.drew (h : OutS w gs G s ws o j V) : OutS w gs G s ws o j V.drew := h.on (Below.refl _ _).drew
end
noncomputable def body_outq : Code := (((Tryd.f22.body.map loopsOf).getD [])[4]?).getD .skip
set_option maxRecDepth 100000 in
set_option maxHeartbeats 1000000 in
theorem outq_loop (c0 c1 c2 c3 c4 c5 c6 c7 c10 c11 c12 c13 c16 c17 c18 c19 c20 c21 c22 c23 c24 c25 c26 c27 c28 c29 c30 c31 c32 c33 c34 c35 c36 c37 c38 c39 c40 c41 c42 c43 c44 c45 c46 c47 c48 c49 c50 c51 c52 c53 c54 c55 c56 c57 c58 c59 c60 c61 c62 c63 c64 c65 c66 c67 c68 c69 c70 c71 c72 c73 c74 c75 c76 c77 c78 c79 c80 c81 c82 c83 c84 c85 c86 c87 c88 c89 c90 c91 c92 c93 c94 c95 c96 c97 c98 c99 c100 c101 c102 : Value) (gs cs G cap : Nat) (s ws : List Nat) (w : World) (hs : Hid (okW s)) (hw : Hid (okW ws)) (h0 : Hid (OutS w gs G s ws (.slice none 0 0) 0 w)) {Q : Exit → Act → World → Prop}
    (HQ : Hid (∀ (u15 u85 u86 u87 u88 u89 u90 u91 u92 u93 u94 u95 u96 u97 u98 u99 u100 u101 o : Value) (wx : World), Hid (OutS w gs G s ws o 16 wx) → Q (.exit 8) ⟨List.toArray (c0 :: c1 :: c2 :: c3 :: c4 :: c5 :: c6 :: c7 :: (.slice (some ⟨gs, 0, none⟩) 16 cs) :: (.slice (some ⟨G, 0, none⟩) 16 cap) :: c10 :: c11 :: c12 :: c13 :: o :: u15 :: c16 :: c17 :: c18 :: c19 :: c20 :: c21 :: c22 :: c23 :: c24 :: c25 :: c26 :: c27 :: c28 :: c29 :: c30 :: c31 :: c32 :: c33 :: c34 :: c35 :: c36 :: c37 :: c38 :: c39 :: c40 :: c41 :: c42 :: c43 :: c44 :: c45 :: c46 :: c47 :: c48 :: c49 :: c50 :: c51 :: c52 :: c53 :: c54 :: c55 :: c56 :: c57 :: c58 :: c59 :: c60 :: c61 :: c62 :: c63 :: c64 :: c65 :: c66 :: c67 :: c68 :: c69 :: c70 :: c71 :: c72 :: c73 :: c74 :: c75 :: c76 :: c77 :: c78 :: c79 :: c80 :: c81 :: c82 :: c83 :: c84 :: u85 :: u86 :: u87 :: u88 :: u89 :: u90 :: u91 :: u92 :: u93 :: u94 :: u95 :: u96 :: u97 :: u98 :: u99 :: u100 :: u101 :: c102 :: []), []⟩ wx)) :
    (Code.loop body_outq).wp Tryd.prog Q ⟨List.toArray (c0 :: c1 :: c2 :: c3 :: c4 :: c5 :: c6 :: c7 :: (.slice (some ⟨gs, 0, none⟩) 16 cs) :: (.slice (some ⟨G, 0, none⟩) 16 cap) :: c10 :: c11 :: c12 :: c13 :: (.slice none 0 0) :: (.int .i64 0) :: c16 :: c17 :: c18 :: c19 :: c20 :: c21 :: c22 :: c23 :: c24 :: c25 :: c26 :: c27 :: c28 :: c29 :: c30 :: c31 :: c32 :: c33 :: c34 :: c35 :: c36 :: c37 :: c38 :: c39 :: c40 :: c41 :: c42 :: c43 :: c44 :: c45 :: c46 :: c47 :: c48 :: c49 :: c50 :: c51 :: c52 :: c53 :: c54 :: c55 :: c56 :: c57 :: c58 :: c59 :: c60 :: c61 :: c62 :: c63 :: c64 :: c65 :: c66 :: c67 :: c68 :: c69 :: c70 :: c71 :: c72 :: c73 :: c74 :: c75 :: c76 :: c77 :: c78 :: c79 :: c80 :: c81 :: c82 :: c83 :: c84 :: c85 :: c86 :: c87 :: c88 :: c89 :: c90 :: c91 :: c92 :: c93 :: c94 :: c95 :: c96 :: c97 :: c98 :: c99 :: c100 :: c101 :: c102 :: []), []⟩ w := by
  obtain ⟨i0, hi, hz0, hz1, hz2⟩ := info_parts info_u8
  unfold body_outq
  conv => arg 2; arg 1; whnf
  go_loopw [14, 15] (fun o i wx => OutRel w gs G s ws o i wx) (fun _ i _ => 16 - (intOf i).toNat)
  case atStart => exact ⟨0, rfl, by omega, h0.out⟩
  case round =>
    obtain ⟨j, rfl, hj, st⟩ := hrel
    by_cases hlt : j < 16
    · have hI : (j : Int) < 16 := by omega
      obtain ⟨x, hx⟩ : ∃ x, x = ws.getD j 0 := ⟨_, rfl⟩
      obtain ⟨y, hy⟩ : ∃ y, y = s.getD j 0 := ⟨_, rfl⟩
      have xl : x < 4294967296 := by rw [hx]; exact hw.out.at j
      have yl : y < 4294967296 := by rw [hy]; exact hs.out.at j
      have cx := st.w0 j hlt
      have cy := st.s0 j hlt
      rw [← hx] at cx
      rw [← hy] at cy
      have HN : Hid (leB 4 ((x + y) % 4294967296) = leB 4 ((ws.getD j 0 + s.getD j 0) % 4294967296)) := Lib.hid (by rw [hx, hy])
      obtain ⟨N, hN⟩ : ∃ N, N = (x + y) % 4294967296 := ⟨_, rfl⟩
      have hz1' : IntKind.u32.wrap ((x : Int) + (y : Int)) = (N : Int) := by rw [IntKind.wrap_u32']; omega
      have hNl : (N : Int) ≤ 4294967295 := by omega
      have hz2' : IntKind.u64.wrap (N : Int) = (N : Int) := IntWalk.u64_in _ (by omega)
      rw [← hN] at HN
      have C1 : Hid (∀ V, OutS w gs G s ws u14 j V → Calls Tryd.prog 23 #[.int .u64 (N : Int), .int .i64 4] V fun e V' => ∃ u, e = .returned u ∧ Rd V' u (leB 4 N) ∧ OutS w gs G s ws u14 j V') := Lib.hid fun V hV => (form_any N 4 V (by omega) (by omega)).mono fun e V' h => by
        obtain ⟨u, he, hr, hb⟩ := h.fresh
        exact ⟨u, he, hr, hV.on hb⟩
      have HL : Hid ((leB 4 N).length = 4) := Lib.hid (leB_length _ _)
      have HX := Lib.hid hx
      have HY := Lib.hid hy
      have hS0 := st.bi hlt HX HY
      have HST := Lib.hid st
      have q0 : Hid (4 * j + 4 ≤ 140737488355328) := Lib.hid (by omega)
      clear hx hy hN xl yl cx cy hj st
      go_wp2_with (fail)
      go_region_held3 (fun W => W.cell? ⟨G, j, none⟩ = some (.int .u32 ((x : Nat) : Int)) ∧ W.cell? ⟨gs, j, none⟩ = some (.int .u32 ((y : Nat) : Int)))
        (first | assumption | exact OutS.bi s1 hlt HX HY | exact OutS.bi s2.out hlt HX HY)
        (first
          | (go_at_call 23; refine (C1.out _ ?_).mono ?_; (first | exact HST.out | exact OutS.drew HST.out); rintro e v1 ⟨u, rfl, ru, s1⟩)
          | (refine step_append_rd _ (by rfl) _ _ _ (by rfl) w.heap.size 5 i0 _ Tryd.underlying26 hi hz0 hz1 hz2 rfl _ _ _ (by rfl) s1.own _ (leB 4 N) (by rfl) ru (by rw [HL.out]; omega) (by rw [HL.out]; exact q0.out) s1.below.size ?_; intro o2 w2 own2 g2; have s2 := Lib.hid (s1.next HN.out own2 g2)))
      go_wp2_with (fail)
      go_roundw
      case rel => exact ⟨j + 1, by go_num, by omega, s2.out⟩
      case measure => simp [intOf]; omega
    · obtain rfl : j = 16 := by omega
      have HO := Lib.hid st
      clear st
      go_wp2_with (fail)
      exact HQ.out _ _ _ _ _ _ _ _ _ _ _ _ _ _ _ _ _ _ _ _ HO
end Go.Proofs.YtmoffodmbbkolaaDoor
