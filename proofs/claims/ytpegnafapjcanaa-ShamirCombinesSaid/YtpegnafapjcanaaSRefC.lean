/- The eighth reference's Combine: its loops, and its contract. Conditions: shares of 33 bytes, at most 1000. -/
import Derived.Test.YtpegnafapjcanaaFRefM
import Derived.Test.YtpegnafapjcanaaShSpec
import Derived.Test.YtpegnafapjcanaaShVal
import Derived.Test.YtpegnafapjcanaaFGev
import Derived.Test.YtpegnafapjcanaaQTail
import Derived.Deep.Cut
namespace Go.Proofs.Ytpegnafapjcanaa
open Go.RowKit

theorem refGm (a b : UInt8) (w : World) : Calls Try.prog 18 #[.int .u8 (a.toNat : Int), .int .u8 (b.toNat : Int)] w fun e w' => e = .returned (.int .u8 ((gm a b).toNat : Int)) ∧ w' = w := by
  rw [gm_toNat]
  exact (refMulG_any _ _ w a.toNat_lt b.toNat_lt).mono fun e V h => ⟨h.1, h.2.symm⟩
theorem refGi (a : UInt8) (w : World) : Calls Try.prog 17 #[.int .u8 (a.toNat : Int)] w fun e w' => e = .returned (.int .u8 ((gi a).toNat : Int)) ∧ w' = w := by
  rw [gi_toNat]
  exact (refInvG_any _ w a.toNat_lt).mono fun e V h => ⟨h.1, h.2.symm⟩
theorem bx_u8 (a b : UInt8) : bits .xor .u8 (a.toNat : Int) (b.toNat : Int) = ((a ^^^ b).toNat : Int) := by
  rw [UInt8.toNat_xor]
  exact xorB_nat _ _ a.toNat_lt b.toNat_lt
def XL (L : List (List UInt8)) (k : Nat) : UInt8 := shX (L.getD k [])
def PkRel (X : Nat → UInt8) (i n : Nat) (w : World) (u d v : Value) (W : World) : Prop := ∃ k m : Nat, v = .int .i64 (k : Int) ∧ k ≤ n ∧ u = .int .u8 ((prodE X i k).toNat : Int) ∧ d = .int .u8 ((downN X i k).toNat : Int) ∧ W = w.drewN m
noncomputable def body_pk : Code := (((Try.f15.body.map loopsOf).getD [])[1]?).getD .skip
set_option maxRecDepth 100000 in
set_option maxHeartbeats 2000000 in
theorem pk_loop (c1 c2 c3 c8 c9 c10 c11 c12 c13 c14 c15 c16 c17 c18 c19 c20 c21 c22 c23 c24 c25 c26 c27 c28 c29 c30 c31 c32 c33 c34 c35 c36 c37 c38 c39 c40 c41 c42 c43 c44 c45 c46 c47 c48 c49 c50 c51 c52 c53 c54 c55 c56 c57 c58 c59 c60 c61 c62 c63 c64 c65 c66 c67 c68 : Value) (X : Nat → UInt8) (n i b off c : Nat) (w : World) (hi : i < n) (hn : n ≤ 1000) (hc : Hid (∀ m k, k < n → (w.drewN m).cell? ⟨b, off + k * 33, none⟩ = some (.int .u8 ((X k).toNat : Int)))) {Q : Exit → Act → World → Prop}
    (HQ : Hid (∀ (u7 u16 u17 u18 u19 u20 u21 u22 u23 u24 u25 u26 u27 u28 u29 u30 u31 u32 u33 u34 u35 u36 u37 u38 u39 u40 u41 u42 u43 u44 : Value) (m : Nat), Q (.exit 2) ⟨List.toArray ((.slice (some ⟨b, off, none⟩) n c) :: c1 :: c2 :: c3 :: (.int .i64 (i : Int)) :: (.int .u8 ((prodE X i n).toNat : Int)) :: (.int .u8 ((downN X i n).toNat : Int)) :: u7 :: c8 :: c9 :: c10 :: c11 :: c12 :: c13 :: c14 :: c15 :: u16 :: u17 :: u18 :: u19 :: u20 :: u21 :: u22 :: u23 :: u24 :: u25 :: u26 :: u27 :: u28 :: u29 :: u30 :: u31 :: u32 :: u33 :: u34 :: u35 :: u36 :: u37 :: u38 :: u39 :: u40 :: u41 :: u42 :: u43 :: u44 :: c45 :: c46 :: c47 :: c48 :: c49 :: c50 :: c51 :: c52 :: c53 :: c54 :: c55 :: c56 :: c57 :: c58 :: c59 :: c60 :: c61 :: c62 :: c63 :: c64 :: c65 :: c66 :: c67 :: c68 :: []), []⟩ (w.drewN m))) :
    (Code.loop body_pk).wp Try.prog Q ⟨List.toArray ((.slice (some ⟨b, off, none⟩) n c) :: c1 :: c2 :: c3 :: (.int .i64 (i : Int)) :: (.int .u8 1) :: (.int .u8 1) :: (.int .i64 0) :: c8 :: c9 :: c10 :: c11 :: c12 :: c13 :: c14 :: c15 :: c16 :: c17 :: c18 :: c19 :: c20 :: c21 :: c22 :: c23 :: c24 :: c25 :: c26 :: c27 :: c28 :: c29 :: c30 :: c31 :: c32 :: c33 :: c34 :: c35 :: c36 :: c37 :: c38 :: c39 :: c40 :: c41 :: c42 :: c43 :: c44 :: c45 :: c46 :: c47 :: c48 :: c49 :: c50 :: c51 :: c52 :: c53 :: c54 :: c55 :: c56 :: c57 :: c58 :: c59 :: c60 :: c61 :: c62 :: c63 :: c64 :: c65 :: c66 :: c67 :: c68 :: []), []⟩ w := by
  have iI : (i : Int) < n := by omega
  have HI := Lib.hid hi
  have nI : (n : Int) ≤ 1000 := by omega
  unfold body_pk
  conv => arg 2; arg 1; whnf
  go_loopw [5, 6, 7] (fun u d v wx => PkRel X i n w u d v wx) (fun _ _ v _ => n - (intOf v).toNat)
  case atStart => exact ⟨0, 0, rfl, by omega, rfl, rfl, rfl⟩
  case round =>
    obtain ⟨k, m0, rfl, hk, rfl, rfl, rfl⟩ := hrel
    by_cases hlt : k < n
    · have hI : (k : Int) < n := by omega
      by_cases hki : k = i
      · have hkI : (k : Int) = i := by omega
        have HE1 : Hid (prodE X i (k + 1) = prodE X i k) := Lib.hid (by show (if k = i then _ else _) = _; rw [if_pos hki])
        have HE2 : Hid (downN X i (k + 1) = downN X i k) := Lib.hid (by show (if k = i then _ else _) = _; rw [if_pos hki]; rfl)
        clear hki
        go_wp2_with (fail)
        refine ⟨⟨k + 1, _, by go_num, by omega, by rw [HE1.out], by rw [HE2.out], rfl⟩, by simp [intOf]; omega⟩
      · have hkI : (k : Int) ≠ i := by omega
        have HE1 : Hid (prodE X i (k + 1) = gm (prodE X i k) (X k)) := Lib.hid (by show (if k = i then _ else _) = _; rw [if_neg hki])
        have HE2 : Hid (downN X i (k + 1) = gm (downN X i k) (X k ^^^ X i)) := Lib.hid (by show (if k = i then _ else _) = _; rw [if_neg hki]; rfl)
        obtain ⟨u, hu⟩ : ∃ u, u = prodE X i k := ⟨_, rfl⟩
        obtain ⟨d, hd⟩ : ∃ d, d = downN X i k := ⟨_, rfl⟩
        obtain ⟨x, hx⟩ : ∃ x, x = X k := ⟨_, rfl⟩
        obtain ⟨y, hy⟩ : ∃ y, y = X i := ⟨_, rfl⟩
        rw [← hu, ← hx] at HE1
        rw [← hd, ← hx, ← hy] at HE2
        rw [← hu, ← hd]
        have c1 : ∀ m, (w.drewN m).cell? ⟨b, off + k * 33, none⟩ = some (.int .u8 (x.toNat : Int)) := fun m => by rw [hx]; exact hc.out m k hlt
        have c2 : ∀ m, (w.drewN m).cell? ⟨b, off + i * 33, none⟩ = some (.int .u8 (y.toNat : Int)) := fun m => by rw [hy]; exact hc.out m i HI.out
        have hxr := bx_u8 x y
        have M1 := Lib.hid (fun W => refGm u x W)
        have M2 := Lib.hid (fun W => refGm d (x ^^^ y) W)
        clear hu hd hx hy hki
        go_wp2_with (fail)
        refine (M1.out _).mono ?_
        rintro e w1 ⟨rfl, rfl⟩
        go_wp2_with (fail)
        go_quiet (first | (go_at_call 18; exact quiet_add_same (M2.out _)))
        go_wp2_with (fail)
        refine ⟨⟨k + 1, _, by go_num, by omega, by rw [HE1.out], by rw [HE2.out], rfl⟩, by simp [intOf]; omega⟩
    · obtain rfl : k = n := by omega
      go_wp2_with (fail)
      exact HQ.out _ _ _ _ _ _ _ _ _ _ _ _ _ _ _ _ _ _ _ _ _ _ _ _ _ _ _ _ _ _ _
theorem range_set {α : Type} (f g : Nat → α) (n j : Nat) (h : ∀ k, k < n → k ≠ j → f k = g k) : ((List.range n).map f).set j (g j) = (List.range n).map g := by
  apply List.ext_getElem
  · simp
  · intro k h1 h2
    have hk : k < n := by simpa using h2
    rw [List.getElem_set, List.getElem_map, List.getElem_range]
    split
    · rename_i e
      subst e
      rw [List.getElem_map, List.getElem_range]
    · rename_i e
      rw [List.getElem_map, List.getElem_range]
      exact h k hk (fun e2 => e e2.symm)
/-- The sums, of which the first j have the share i's part. -/
def mixB (L : List (List UInt8)) (i j : Nat) : List UInt8 := (List.range 32).map fun k => sumE (fun q => gm (wgt (XL L) q L.length) (shY (L.getD q []) k)) (if k < j then i + 1 else i)
theorem mixB_length (L : List (List UInt8)) (i j : Nat) : (mixB L i j).length = 32 := by simp [mixB]
theorem mixB_next (L : List (List UInt8)) (i : Nat) : mixB L i 32 = mixB L (i + 1) 0 := by
  unfold mixB
  refine List.map_congr_left fun k hk => ?_
  rw [if_pos (List.mem_range.1 hk), if_neg (by omega)]
theorem mixB_get (L : List (List UInt8)) {i j : Nat} (hj : j < 32) : (mixB L i j)[j]? = some (sumE (fun q => gm (wgt (XL L) q L.length) (shY (L.getD q []) j)) i) := by
  unfold mixB
  rw [List.getElem?_map, List.getElem?_range hj]
  refine congrArg some ?_
  show sumE _ (if j < j then i + 1 else i) = _
  rw [if_neg (by omega)]
theorem mixB_set (L : List (List UInt8)) {i j : Nat} : (mixB L i j).set j (sumE (fun q => gm (wgt (XL L) q L.length) (shY (L.getD q []) j)) (i + 1)) = mixB L i (j + 1) := by
  have h := range_set (fun k => sumE (fun q => gm (wgt (XL L) q L.length) (shY (L.getD q []) k)) (if k < j then i + 1 else i)) (fun k => sumE (fun q => gm (wgt (XL L) q L.length) (shY (L.getD q []) k)) (if k < j + 1 then i + 1 else i)) 32 j (fun k _ hkj => by
    have e : (k < j) = (k < j + 1) := by apply propext; omega
    simp only [e])
  rw [← show sumE (fun q => gm (wgt (XL L) q L.length) (shY (L.getD q []) j)) (if j < j + 1 then i + 1 else i) = sumE (fun q => gm (wgt (XL L) q L.length) (shY (L.getD q []) j)) (i + 1) by rw [if_pos (by omega)]]
  exact h
theorem mixB_end (L : List (List UInt8)) : mixB L L.length 0 = combB L := by
  unfold mixB combB
  refine List.map_congr_left fun k _ => ?_
  rw [if_neg (by omega), lagr_zero]
  rfl
theorem sole_set_drewN (w : World) (B j n : Nat) (v : Value) : Sole w ((w.drewN n).setCell ⟨B, j, none⟩ v) B :=
  ⟨(below_drewN (Below.refl B w) n).setCell (p := ⟨B, j, none⟩) (Nat.le_refl _) v, by simp [World.setCell], fun k hk => Below.heap_setCell (w.drewN n) _ v k hk⟩
def PjRel (L : List (List UInt8)) (i B : Nat) (w : World) (v : Value) (W : World) : Prop := ∃ j : Nat, v = .int .i64 (j : Int) ∧ j ≤ 32 ∧ Blk W B 22 ((mixB L i j).map bv) ∧ Sole w W B
noncomputable def body_pj : Code := (((Try.f15.body.map loopsOf).getD [])[2]?).getD .skip
set_option maxRecDepth 100000 in
set_option maxHeartbeats 2000000 in
theorem pj_loop (c1 c2 c5 c6 c7 c10 c11 c12 c13 c14 c15 c16 c17 c18 c19 c20 c21 c22 c23 c24 c25 c26 c27 c28 c29 c30 c31 c32 c33 c34 c35 c36 c37 c38 c39 c40 c41 c42 c43 c44 c45 c46 c47 c48 c49 c50 c51 c52 c53 c54 c55 c56 c57 c58 c59 c60 c61 c62 c63 c64 c65 c66 c67 c68 : Value) (L : List (List UInt8)) (i b off c B : Nat) (w : World) (hi : i < L.length) (hn : L.length ≤ 1000) (hbB : b ≠ B) (hc : Hid (∀ k, k < 32 → w.cell? ⟨b, off + i * 33 + (1 + k), none⟩ = some (.int .u8 ((shY (L.getD i []) k).toNat : Int)))) (h0 : Hid (Blk w B 22 ((mixB L i 0).map bv))) {Q : Exit → Act → World → Prop}
    (HQ : Hid (∀ (u9 u49 u50 u51 u52 u53 u54 u55 u56 u57 u58 u59 u60 u61 u62 u63 u64 u65 u66 u67 : Value) (wx : World), Hid (Blk wx B 22 ((mixB L (i + 1) 0).map bv)) → Hid (Sole w wx B) → Q (.exit 4) ⟨List.toArray ((.slice (some ⟨b, off, none⟩) L.length c) :: c1 :: c2 :: (.pointer (some ⟨B, 0, none⟩)) :: (.int .i64 (i : Int)) :: c5 :: c6 :: c7 :: (.int .u8 ((wgt (XL L) i L.length).toNat : Int)) :: u9 :: c10 :: c11 :: c12 :: c13 :: c14 :: c15 :: c16 :: c17 :: c18 :: c19 :: c20 :: c21 :: c22 :: c23 :: c24 :: c25 :: c26 :: c27 :: c28 :: c29 :: c30 :: c31 :: c32 :: c33 :: c34 :: c35 :: c36 :: c37 :: c38 :: c39 :: c40 :: c41 :: c42 :: c43 :: c44 :: c45 :: c46 :: c47 :: c48 :: u49 :: u50 :: u51 :: u52 :: u53 :: u54 :: u55 :: u56 :: u57 :: u58 :: u59 :: u60 :: u61 :: u62 :: u63 :: u64 :: u65 :: u66 :: u67 :: c68 :: []), []⟩ wx)) :
    (Code.loop body_pj).wp Try.prog Q ⟨List.toArray ((.slice (some ⟨b, off, none⟩) L.length c) :: c1 :: c2 :: (.pointer (some ⟨B, 0, none⟩)) :: (.int .i64 (i : Int)) :: c5 :: c6 :: c7 :: (.int .u8 ((wgt (XL L) i L.length).toNat : Int)) :: (.int .i64 0) :: c10 :: c11 :: c12 :: c13 :: c14 :: c15 :: c16 :: c17 :: c18 :: c19 :: c20 :: c21 :: c22 :: c23 :: c24 :: c25 :: c26 :: c27 :: c28 :: c29 :: c30 :: c31 :: c32 :: c33 :: c34 :: c35 :: c36 :: c37 :: c38 :: c39 :: c40 :: c41 :: c42 :: c43 :: c44 :: c45 :: c46 :: c47 :: c48 :: c49 :: c50 :: c51 :: c52 :: c53 :: c54 :: c55 :: c56 :: c57 :: c58 :: c59 :: c60 :: c61 :: c62 :: c63 :: c64 :: c65 :: c66 :: c67 :: c68 :: []), []⟩ w := by
  have iI : (i : Int) < L.length := by omega
  have nI : (L.length : Int) ≤ 1000 := by omega
  have HNE := Lib.hid hbB
  clear hi hn
  unfold body_pj
  conv => arg 2; arg 1; whnf
  go_loopw [9] (fun v wx => PjRel L i B w v wx) (fun v _ => 32 - (intOf v).toNat)
  case atStart => exact ⟨0, rfl, by omega, h0.out, Sole.refl _ _⟩
  case round =>
    obtain ⟨j, rfl, hj, hblk, so⟩ := hrel
    by_cases hlt : j < 32
    · have hI : (j : Int) < 32 := by omega
      obtain ⟨s, hs⟩ : ∃ s, s = sumE (fun q => gm (wgt (XL L) q L.length) (shY (L.getD q []) j)) i := ⟨_, rfl⟩
      obtain ⟨y, hy⟩ : ∃ y, y = shY (L.getD i []) j := ⟨_, rfl⟩
      obtain ⟨g, hg⟩ : ∃ g, g = wgt (XL L) i L.length := ⟨_, rfl⟩
      have HS : Hid ((mixB L i j).set j (s ^^^ gm g y) = mixB L i (j + 1)) := Lib.hid (by
        rw [← mixB_set L, hs, hg, hy]
        rfl)
      have cy : wr.cell? ⟨b, off + i * 33 + 1 + j, none⟩ = some (.int .u8 (y.toNat : Int)) := by
        rw [so.cell (p := ⟨b, off + i * 33 + 1 + j, none⟩) HNE.out, hy, ← hc.out j hlt, Nat.add_assoc]
      have cs : wr.cell? ⟨B, j, none⟩ = some (.int .u8 (s.toNat : Int)) := by
        rw [hblk.cell, List.getElem?_map, mixB_get L hlt, ← hs]
        rfl
      have f4 : ∀ W, Blk W B 22 ((mixB L i j).map bv) → W.frozen? ⟨B, j, none⟩ = false := fun W h => h.free j
      have M1 := Lib.hid (fun W => refGm g y W)
      have hxr := bx_u8 s (gm g y)
      have HB := Lib.hid hblk
      have HL := Lib.hid so
      have HCY := Lib.hid cy
      have HCS := Lib.hid cs
      rw [← hg]
      have HG := Lib.hid hg
      have f5 := hblk.free j
      clear hs hy hg hblk so hj
      go_wp2_with (fail)
      refine wp_quiet_tail 15 (by kernel_rfl) (by kernel_rfl) (by kernel_rfl) (by kernel_rfl) (by kernel_rfl) (by kernel_rfl) (by kernel_rfl) (by kernel_rfl) ?_
      simp only [List.take_succ_cons, List.take_zero, List.drop_succ_cons, List.drop_zero]
      repeat (go_big_quiet_step ((go_at_call 18; exact Calls.quiet_of_same (M1.out _))))
      refine wpQuiet_nil ?_
      intro wq hwq
      obtain ⟨nq, rfl⟩ := hwq
      clear cy cs f4 f5
      have f6 : (wr.drewN nq).frozen? ⟨B, j, none⟩ = false := (HB.out.drewN nq).free j
      have c6 : (wr.drewN nq).cell? ⟨B, j, none⟩ = some (.int .u8 (s.toNat : Int)) := HCS.out
      have HST : Hid (Blk ((wr.drewN nq).setCell ⟨B, j, none⟩ (.int .u8 ((s ^^^ gm g y).toNat : Int))) B 22 ((mixB L i (j + 1)).map bv)) := Lib.hid (by
        have h := (HB.out.drewN nq).set j (bv (s ^^^ gm g y))
        rw [← List.map_set, HS.out] at h
        exact h)
      have HSO : Hid (Sole w ((wr.drewN nq).setCell ⟨B, j, none⟩ (.int .u8 ((s ^^^ gm g y).toNat : Int))) B) := Lib.hid (HL.out.trans (sole_set_drewN wr B j nq _))
      go_wp2_with (fail)
      refine ⟨⟨j + 1, by go_num, by omega, HST.out, HSO.out⟩, by simp [intOf]; omega⟩
    · obtain rfl : j = 32 := by omega
      have HB := Lib.hid hblk
      have HL := Lib.hid so
      rw [mixB_next] at HB
      clear hblk so
      go_wp2_with (fail)
      exact HQ.out _ _ _ _ _ _ _ _ _ _ _ _ _ _ _ _ _ _ _ _ _ HB HL
end Go.Proofs.Ytpegnafapjcanaa
