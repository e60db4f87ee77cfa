/- The contract of poly's blocks: whatever the caller keeps between two rounds holds behind all of them. Conditions: at most a million bytes; a round goes on, and keeps what the iterator has laid. -/
import Derived.Test.YtlcpplnajaldgaaPIter
namespace Go.Proofs.Ytlcpplnajaldgaa
open Go.RowKit Go.Shelf

/-- The parts, as a slice of slices, nil let in. -/
def PartsP (w : World) (v : Value) (xss : List (List UInt8)) : Prop :=
  ∃ Ad c, v = .slice Ad xss.length c ∧ ∀ i (h : i < xss.length), ∃ g u, Ad = some ⟨g, 0, none⟩ ∧ g < w.heap.size ∧ w.cell? ⟨g, i, none⟩ = some u ∧ Rd w u xss[i]
theorem parts_of {w : World} {v : Value} {xss : List (List UInt8)} (h : Rs w v xss ∨ (v = .slice none 0 0 ∧ xss = [])) : PartsP w v xss := by
  rcases h with ⟨g, c, rfl, hg, hc⟩ | ⟨rfl, rfl⟩
  · exact ⟨_, c, rfl, fun i hi => by obtain ⟨u, h1, h2⟩ := hc i hi; exact ⟨g, u, rfl, hg, h1, h2⟩⟩
  · exact ⟨none, 0, rfl, fun i hi => by simp at hi⟩
def sumL (xss : List (List UInt8)) (p : Nat) : Nat := ((xss.take p).flatten).length
theorem sumL_succ {xss : List (List UInt8)} {p : Nat} (h : p < xss.length) : sumL xss p + xss[p].length = sumL xss (p + 1) := by
  unfold sumL
  rw [List.take_succ_eq_append_getElem h, List.flatten_append, List.length_append]
  simp
theorem sumL_le (xss : List (List UInt8)) (p : Nat) : sumL xss p ≤ xss.flatten.length := by
  have h : xss.flatten = (xss.take p).flatten ++ (xss.drop p).flatten := by rw [← List.flatten_append, List.take_append_drop]
  unfold sumL
  rw [h, List.length_append]
  omega
theorem sumL_all (xss : List (List UInt8)) : sumL xss xss.length = xss.flatten.length := by unfold sumL; rw [List.take_length]
theorem part_at {xss : List (List UInt8)} {p : Nat} (h : p < xss.length) : xss[p] = (xss.flatten.drop (sumL xss p)).take xss[p].length := by
  have h1 : xss.flatten = (xss.take p).flatten ++ (xss[p] ++ (xss.drop (p + 1)).flatten) := by
    rw [← List.flatten_cons, ← List.drop_eq_getElem_cons h, ← List.flatten_append, List.take_append_drop]
  unfold sumL
  rw [h1, List.drop_left, List.take_left]
def OulRel (BB : Nat) (m : List UInt8) (J : Nat → World → Prop) (xss : List (List UInt8)) (fv v : Value) (A : World) : Prop :=
  ∃ p : Nat, v = .int .i64 (p : Int) ∧ p ≤ xss.length ∧ fv = .int .i64 ((sumL xss p % 16 : Nat) : Int) ∧ ItS BB m J (sumL xss p) A
noncomputable def body_oul : Code := (((Try.f29.body.map loopsOf).getD [])[0]?).getD .skip
set_option maxRecDepth 100000 in
set_option maxHeartbeats 4000000 in
theorem oul_loop (c1 c2 c5 c6 c7 c11 c12 c13 c14 c15 c16 c17 c18 c19 c20 c21 c22 c23 c24 c25 c26 c27 c28 c29 c30 c31 c32 c33 c34 c35 c36 c37 c38 c39 c40 c41 c42 c43 c44 : Value) (w0 W : World) (BB l c : Nat) (Ad : Option Addr) (m : List UInt8) (xss : List (List UInt8)) (J : Nat → World → Prop) (w : World) (hp : Hid (ItP w0 W BB l m J)) (hmx : Hid (m = xss.flatten)) (hm : m.length ≤ 1000000) (hx : xss.length ≤ 1000000)
    (hpt : Hid (∀ i (h : i < xss.length), ∃ g u, Ad = some ⟨g, 0, none⟩ ∧ g < w0.heap.size ∧ w0.cell? ⟨g, i, none⟩ = some u ∧ Rd w0 u xss[i])) (h0 : Hid (ItS BB m J 0 w)) {Q : Exit → Act → World → Prop}
    (HQ : Hid (∀ (u6 u7 u10 u11 u12 u13 u14 u15 u16 u17 u18 u19 u20 u21 u22 u23 u24 u25 u26 u27 u28 u29 u30 u31 u32 u33 u34 : Value) (wx : World), Hid (ItS BB m J m.length wx) → Q (.exit 0) ⟨List.toArray ((.func (.yield l) #[] #[]) :: c1 :: c2 :: (.pointer (some ⟨BB, 0, none⟩)) :: (.int .i64 ((m.length % 16 : Nat) : Int)) :: c5 :: u6 :: u7 :: (.slice Ad xss.length c) :: (.int .i64 (xss.length : Int)) :: u10 :: u11 :: u12 :: u13 :: u14 :: u15 :: u16 :: u17 :: u18 :: u19 :: u20 :: u21 :: u22 :: u23 :: u24 :: u25 :: u26 :: u27 :: u28 :: u29 :: u30 :: u31 :: u32 :: u33 :: u34 :: c35 :: c36 :: c37 :: c38 :: c39 :: c40 :: c41 :: c42 :: c43 :: c44 :: []), []⟩ wx)) :
    (Code.loop body_oul).wp Try.prog Q ⟨List.toArray ((.func (.yield l) #[] #[]) :: c1 :: c2 :: (.pointer (some ⟨BB, 0, none⟩)) :: (.int .i64 0) :: c5 :: c6 :: c7 :: (.slice Ad xss.length c) :: (.int .i64 (xss.length : Int)) :: (.int .i64 0) :: c11 :: c12 :: c13 :: c14 :: c15 :: c16 :: c17 :: c18 :: c19 :: c20 :: c21 :: c22 :: c23 :: c24 :: c25 :: c26 :: c27 :: c28 :: c29 :: c30 :: c31 :: c32 :: c33 :: c34 :: c35 :: c36 :: c37 :: c38 :: c39 :: c40 :: c41 :: c42 :: c43 :: c44 :: []), []⟩ w := by
  have xI : (xss.length : Int) ≤ 1000000 := by omega
  unfold body_oul
  conv => arg 2; arg 1; whnf
  go_loopw [4, 10] (fun fv v wx => OulRel BB m J xss fv v wx) (fun _ v _ => xss.length - (intOf v).toNat)
  case atStart => exact ⟨0, rfl, by omega, rfl, h0.out⟩
  case round =>
    obtain ⟨p, rfl, hpl, rfl, hs⟩ := hrel
    have HS := Lib.hid hs
    by_cases hlt : p < xss.length
    · have pI : (p : Int) < xss.length := by omega
      obtain ⟨g, u, rfl, hg, hc, hr⟩ := hpt.out p hlt
      have cu := (((hp.out.low _ _ hs.1)).cell (p := ⟨g, p, none⟩) hg).trans hc
      have HR := Lib.hid hr
      have HE := Lib.hid (part_at hlt)
      have HSS := Lib.hid (sumL_succ hlt)
      have HLE : Hid (sumL xss (p + 1) ≤ m.length) := Lib.hid (by rw [hmx.out]; exact sumL_le _ _)
      have HE2 : Hid (xss[p] = (m.drop (sumL xss p)).take xss[p].length) := Lib.hid (by rw [hmx.out]; exact HE.out)
      obtain ⟨xs, hxs⟩ : ∃ xs, xs = xss[p] := ⟨_, rfl⟩
      rw [← hxs] at HR HSS HE2
      clear hs hc hr hpl hxs HE
      go_wp2_with (fail)
      refine inl_loop _ _ _ _ _ _ _ _ _ _ _ _ _ _ _ _ _ _ _ _ _ _ _ _ _ _ _ _ _ _ _ _ _ _ _ _ _ _ _ _ _ w0 W BB l (sumL xss p) (sumL xss (p + 1)) m xs u J wr hp HLE.out HR HSS.out HE2 HS hm (Lib.hid ?_)
      intro u6 u7 u14 u15 u16 u17 u18 u19 u20 u21 u22 u23 u24 u25 u26 u27 u28 u29 u30 u31 u32 u33 wx hs2
      go_wp2_with (fail)
      go_roundw
      case rel => exact ⟨p + 1, by go_num, by omega, rfl, hs2.out⟩
      case measure => simp [intOf]; omega
    · obtain rfl : p = xss.length := by omega
      have HS2 : Hid (ItS BB m J m.length wr) := Lib.hid (by rw [hmx.out, ← sumL_all]; rw [hmx.out] at hs; exact hs)
      have HEE : Hid (sumL xss xss.length = m.length) := Lib.hid (by rw [sumL_all, hmx.out])
      clear hs
      go_wp2_with (fail)
      rw [HEE.out]
      exact HQ.out _ _ _ _ _ _ _ _ _ _ _ _ _ _ _ _ _ _ _ _ _ _ _ _ _ _ _ _ HS2
theorem numB_zeros (xs : List UInt8) (n : Nat) : numB (xs ++ List.replicate n 0) = numB xs := by
  induction n with
  | zero => simp
  | succ n ih => rw [List.replicate_succ', ← List.append_assoc, numB_z, ih]
theorem clear_end {m cs : List UInt8} {q f : Nat} (hl : cs.length = 17) (hf : f < 16) (hc : cs.take f = (m.drop (16 * q)).take f) (hm : m.length = 16 * q + f) : clearL ((cs.set f 1).map bv) (f + 1) (16 - f) (.int .u8 0) = (blkP m q ++ [1] ++ List.replicate (16 - f) 0).map bv := by
  have h1 : blkP m q = cs.take f := by
    unfold blkP
    rw [hc, List.take_of_length_le (by rw [List.length_drop]; omega), List.take_of_length_le (by rw [List.length_drop]; omega)]
  have h2 : (cs.set f 1).take (f + 1) = cs.take f ++ [1] := by
    rw [List.take_succ_eq_append_getElem (by rw [List.length_set]; omega), List.getElem_set_self, List.take_set_of_le (Nat.le_refl f)]
  unfold clearL
  rw [← List.map_take, h2, h1, List.drop_of_length_le (by rw [List.length_map, List.length_set]; omega)]
  simp [bv]
set_option maxRecDepth 100000 in
set_option maxHeartbeats 4000000 in
theorem blks1_any (w0 W : World) (l PB : Nat) (v : Value) (m : List UInt8) (xss : List (List UInt8)) (J : Nat → World → Prop) (hpt : PartsP w0 v xss) (hmx : m = xss.flatten) (hm : m.length ≤ 1000000) (hx : xss.length ≤ 1000000) (hcell : W.cell? ⟨PB, 0, none⟩ = some v) (hPB : PB < W.heap.size) (hp : ItP w0 W W.heap.size l m J) (h0 : J 0 W) :
    Calls Try.prog 29 #[.func (.yield l) #[] #[], .pointer (some ⟨PB, 0, none⟩)] W fun e W' => e = .returned (.tuple #[]) ∧ J (blksN m) W' := by
  obtain ⟨i0, hi0, hz0, hz1, hz2⟩ := info_parts info_u8
  obtain ⟨Ad, c, rfl, hparts⟩ := hpt
  have HPT := Lib.hid hparts
  have HP := Lib.hid hp
  have HMX := Lib.hid hmx
  obtain ⟨W1, hW1⟩ := ex_w (W.alloc (.cells (List.replicate 17 (Value.int .u8 0)).toArray 57))
  have HB1 : Hid (Blk W1 W.heap.size 57 ((List.replicate 17 (0 : UInt8)).map bv)) := Lib.hid (by rw [hW1, List.map_replicate]; exact Blk.made W _ _)
  have HD1 : Hid (Below W.heap.size W W1) := Lib.hid (by rw [hW1]; exact (Below.refl _ _).alloc (Nat.le_refl _) _)
  have HS1 : Hid (ItS W.heap.size m J 0 W1) := Lib.hid ⟨hp.on _ _ _ h0 HD1.out, by omega, List.replicate 17 0, by simp, by simp, HB1.out⟩
  have c1 : W1.cell? ⟨PB, 0, none⟩ = some (.slice Ad xss.length c) := ((HD1.out.cell (p := ⟨PB, 0, none⟩) hPB)).trans hcell
  have hW1' := hW1
  simp only [List.replicate_succ, List.replicate_zero] at hW1'
  have HW1 := Lib.hid hW1'
  clear hparts hp hmx hW1 hW1' h0 hcell
  go_enter Try.func29, Try.ntmps29
  go_upto_region 1 with (fail)
  rw [← HW1.out]
  go_wp2_with (fail)
  refine oul_loop _ _ _ _ _ _ _ _ _ _ _ _ _ _ _ _ _ _ _ _ _ _ _ _ _ _ _ _ _ _ _ _ _ _ _ _ _ _ _ w0 W W.heap.size l c Ad m xss J W1 HP HMX hm hx HPT HS1 (Lib.hid ?_)
  intro u6 u7 u10 u11 u12 u13 u14 u15 u16 u17 u18 u19 u20 u21 u22 u23 u24 u25 u26 u27 u28 u29 u30 u31 u32 u33 u34 w2 hs2
  obtain ⟨q, hq⟩ : ∃ q, q = m.length / 16 := ⟨_, rfl⟩
  obtain ⟨f, hf⟩ : ∃ f, f = m.length % 16 := ⟨_, rfl⟩
  have f16 : f < 16 := by omega
  obtain ⟨hj, _, cs, hcl, hct, hcb⟩ := hs2.out
  rw [← hq] at hj hct
  rw [← hf] at hct
  rw [← hf]
  have fI : (f : Int) ≤ 15 := by omega
  by_cases hpos : 0 < f
  · have pI : (0 : Int) < f := by omega
    have HJ := Lib.hid hj
    have HML : Hid (m.length = 16 * q + f) := Lib.hid (by omega)
    have HCE := Lib.hid (clear_end (m := m) (q := q) hcl f16 hct HML.out)
    have HCL := Lib.hid hcl
    have HCB := Lib.hid hcb
    have f0 : w2.frozen? ⟨W.heap.size, f, none⟩ = false := hcb.free _
    obtain ⟨u, hu⟩ : ∃ u, w2.cell? ⟨W.heap.size, f, none⟩ = some u := ⟨_, by rw [hcb.cell]; exact List.getElem?_eq_getElem (by rw [List.length_map]; omega)⟩
    obtain ⟨w3, hw3⟩ := ex_w (w2.setCell ⟨W.heap.size, f, none⟩ (.int .u8 1))
    have HB3 : Hid (Blk w3 W.heap.size 57 ((cs.set f 1).map bv)) := Lib.hid (by
      have h := hcb.set f (bv 1)
      rw [← List.map_set] at h
      rw [hw3]
      exact h)
    have HD3 : Hid (Below W.heap.size w2 w3) := Lib.hid (by rw [hw3]; exact (Sole.setCell w2 W.heap.size f _).below)
    have HW3 := Lib.hid hw3
    obtain ⟨o, n, hn, ho, hsl⟩ := run_slice_arr_l' (P := Try.prog) 57 17 5 i0 Try.underlying57 hi0 hz1 W.heap.size (f + 1) ((f : Int) + 1) (by omega) (by omega)
    have ho2 : o = f + 1 := ho (by omega)
    have hn2 : n = 16 - f := by omega
    subst ho2 hn2
    have hzv : ∀ w, (zeroValue 5).run Try.prog w = .ok (.int .u8 0) w := fun w => by simp [zeroValue, typeInfo, hi0, hz0]
    have HZV := Lib.hid hzv
    have HYL : Hid ((blkP m q ++ [1] ++ List.replicate (16 - f) 0).length = 17) := Lib.hid (by
      have h1 : (blkP m q).length = f := by unfold blkP; rw [List.length_take, List.length_drop]; omega
      rw [List.length_append, List.length_append, h1, List.length_replicate]
      simp
      omega)
    have HQM : Hid (q < blksN m ∧ q + 1 = blksN m) := Lib.hid (by unfold blksN; omega)
    clear hj hct hcl hcb hw3 hq hf ho hzv hs2 hn
    go_upto_region 15 with (fail)
    rw [← HW3.out]
    clear f0 hu HCB
    go_upto_region 16 with (refine wpList_clear_blk rfl (.tmp 41) 24 rfl 5 (.int .u8 0) Try.underlying24 HZV.out rfl rfl W.heap.size (f + 1) (f + 1) (16 - f) (16 - f) 57 _ HB3.out rfl (fun _ => rfl) (by rw [List.length_map, List.length_set, HCL.out]; omega) ?_; intro w4 hb4 hs4; rw [HCE.out] at hb4; have HB4 := Lib.hid hb4; have HS4 := Lib.hid hs4; clear hb4 hs4)
    have HD4 : Hid (Below W.heap.size w2 w4) := Lib.hid (HD3.out.trans HS4.out.below)
    have HJ4 := Lib.hid (HP.out.on _ _ _ HJ.out HD4.out)
    refine (wpIn_wide (n := 2)).1 ?_
    gi_wp2_with (fail)
    refine ⟨trivial, (callsIn_wide.2 (nof_any W.heap.size _ _ w4 HB4.out HYL.out)).mono ?_⟩
    rintro e w5 ⟨rfl, hb5⟩
    rw [numB_zeros]
    have hj5 := HP.out.on _ _ _ HJ4.out (hb5.mono (Nat.le_of_lt HB4.out.lt))
    obtain ⟨fn, tmps, assign, body, hy, hR⟩ := HP.out.yield q w5 HQM.out.1 hj5
    dsimp only [encB] at hy
    clear hb5 hj5
    gi_wp2_with (fail)
    refine hR.mono ?_
    rintro e w6 ⟨rfl, hj6, hs6, hk6⟩
    have HJ6 := Lib.hid hj6
    clear hR hy hj6 hs6 hk6
    gi_wp2_with (fail)
    go_wp2_with (fail)
    go_end0
    exact ⟨rfl, by rw [← HQM.out.2]; exact HJ6.out⟩
  · obtain rfl : f = 0 := by omega
    have HJ : Hid (J (blksN m) w2) := Lib.hid (by
      have e : blksN m = q := by unfold blksN; omega
      rw [e]
      exact hj)
    clear hj hct hcl hcb hq hf hs2
    go_wp2_with (fail)
    go_end0
    exact ⟨rfl, HJ.out⟩
end Go.Proofs.Ytlcpplnajaldgaa
