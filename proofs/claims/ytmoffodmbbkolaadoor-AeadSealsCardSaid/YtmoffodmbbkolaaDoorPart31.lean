/- Part 31 of the words that the laws share: PIter, PBlks, PRange, PRound. No condition of its own: each theorem says its own. -/
import Derived.Test.YtmoffodmbbkolaaDoorPart30
import Derived.RangeFuncNested
import Derived.RangeFuncBound
import Derived.RangeFuncCalls
import Derived.RangeFuncLeaves
import Derived.Shelf.Abstract
import Derived.Shelf.RegionOpen
import Derived.OwnWalkIn
import Derived.TacticsInMore
import Derived.LoopNIn
import Derived.LoopIn
import Derived.Deep.Cut

/- poly's blocks: what its loops keep, and the loop over one part. Conditions: a round of the caller's goes on, and keeps what the iterator has laid. -/
namespace Go.Proofs.YtmoffodmbbkolaaDoor
open Go.RowKit Go.Shelf

/-- What is handed to yield: the limbs of a block's number. -/
def encB (m : List UInt8) (j : Nat) : Value := .agg ((lim (numB (blkP m j ++ [1]))).map wq).toArray
/-- What the iterator may ask of its caller. -/
structure ItP (w0 W : World) (BB l : Nat) (m : List UInt8) (J : Nat → World → Prop) : Prop where
  size : w0.heap.size ≤ W.heap.size
  blk : W.heap.size ≤ BB
  low : ∀ j A, J j A → Below w0.heap.size w0 A
  on : ∀ j A B, J j A → Below W.heap.size A B → J j B
  yield : ∀ j A, j < blksN m → J j A → YieldAt Fence.wide 1 Tryd.prog l #[encB m j] A fun e B => e = .returned (.bool true) ∧ J (j + 1) B ∧ A.heap.size ≤ B.heap.size ∧ ∀ k, W.heap.size ≤ k → k < A.heap.size → B.heap[k]? = A.heap[k]?
/-- Where L bytes have gone through: the whole blocks among them are handed on, the rest lies in the array. -/
def ItS (BB : Nat) (m : List UInt8) (J : Nat → World → Prop) (L : Nat) (A : World) : Prop :=
  J (L / 16) A ∧ L ≤ m.length ∧ ∃ cs : List UInt8, cs.length = 17 ∧ cs.take (L % 16) = (m.drop (16 * (L / 16))).take (L % 16) ∧ Blk A BB 91 (cs.map bv)
theorem it_copy {m cs rest : List UInt8} {q f n : Nat} (hl : cs.length = 17) (hc : cs.take f = (m.drop (16 * q)).take f) (hr : rest.take n = (m.drop (16 * q + f)).take n) (hn : n ≤ rest.length) (hf : f + n ≤ 16) (_hm : 16 * q + f + n ≤ m.length) :
    (splice cs f (rest.take n)).length = 17 ∧ (splice cs f (rest.take n)).take (f + n) = (m.drop (16 * q)).take (f + n) := by
  have h1 : (rest.take n).length = n := by rw [List.length_take]; omega
  have h2 : (cs.take f).length = f := by rw [List.length_take]; omega
  constructor
  · unfold splice
    rw [List.length_append, List.length_append, h1, h2, List.length_drop]
    omega
  · unfold splice
    rw [← List.append_assoc, List.take_append_of_le_length (by rw [List.length_append, h1, h2]; omega), List.take_of_length_le (by rw [List.length_append, h1, h2]; omega), hc, hr, ← List.drop_drop]
    rw [List.take_add]
theorem blk_full {m cs : List UInt8} {q : Nat} (hl : cs.length = 17) (hc : cs.take 16 = (m.drop (16 * q)).take 16) : cs.set 16 1 = blkP m q ++ [1] := by
  have h1 : cs = cs.take 16 ++ cs.drop 16 := (List.take_append_drop 16 cs).symm
  have h2 : (cs.drop 16).length = 1 := by rw [List.length_drop]; omega
  have h3 : (cs.take 16).length = 16 := by rw [List.length_take]; omega
  obtain ⟨x, hx⟩ : ∃ x, cs.drop 16 = [x] := by
    match cs.drop 16, h2 with
    | [x], _ => exact ⟨x, rfl⟩
  rw [h1, hx, List.set_append_right _ _ (by omega), h3, hc]
  rfl
def lenOf : Value → Nat
  | .slice _ n _ => n
  | _ => 0
def InlRel (w0 : World) (BB : Nat) (m : List UInt8) (J : Nat → World → Prop) (E : Nat) (fv u : Value) (A : World) : Prop :=
  ∃ (L : Nat) (rest : List UInt8), fv = .int .i64 ((L % 16 : Nat) : Int) ∧ Rd w0 u rest ∧ L + rest.length = E ∧ rest = (m.drop L).take rest.length ∧ ItS BB m J L A
noncomputable def body_inl : Code := (((Tryd.f50.body.map loopsOf).getD [])[1]?).getD .skip
set_option maxRecDepth 100000 in
set_option maxHeartbeats 4000000 in
theorem inl_loop (c1 c2 c5 c7 c8 c9 c10 c11 c12 c13 c14 c15 c16 c17 c18 c19 c20 c21 c22 c23 c24 c25 c26 c27 c28 c29 c30 c31 c32 c33 c34 c35 c36 c37 c38 c39 c40 c41 c42 c43 c44 : Value) (w0 W : World) (BB l L0 E : Nat) (m rest0 : List UInt8) (u0 : Value) (J : Nat → World → Prop) (w : World) (hp : Hid (ItP w0 W BB l m J)) (hE : E ≤ m.length) (hr0 : Hid (Rd w0 u0 rest0)) (hL0 : L0 + rest0.length = E) (he0 : Hid (rest0 = (m.drop L0).take rest0.length)) (h0 : Hid (ItS BB m J L0 w)) (hm : m.length ≤ 1000000) {Q : Exit → Act → World → Prop}
    (HQ : Hid (∀ (u6 u7 u14 u15 u16 u17 u18 u19 u20 u21 u22 u23 u24 u25 u26 u27 u28 u29 u30 u31 u32 u33 : Value) (wx : World), Hid (ItS BB m J E wx) → Q (.exit 2) ⟨List.toArray ((.func (.yield l) #[] #[]) :: c1 :: c2 :: (.pointer (some ⟨BB, 0, none⟩)) :: (.int .i64 ((E % 16 : Nat) : Int)) :: c5 :: u6 :: u7 :: c8 :: c9 :: c10 :: c11 :: c12 :: c13 :: u14 :: u15 :: u16 :: u17 :: u18 :: u19 :: u20 :: u21 :: u22 :: u23 :: u24 :: u25 :: u26 :: u27 :: u28 :: u29 :: u30 :: u31 :: u32 :: u33 :: c34 :: c35 :: c36 :: c37 :: c38 :: c39 :: c40 :: c41 :: c42 :: c43 :: c44 :: []), []⟩ wx)) :
    (Code.loop body_inl).wp Tryd.prog Q ⟨List.toArray ((.func (.yield l) #[] #[]) :: c1 :: c2 :: (.pointer (some ⟨BB, 0, none⟩)) :: (.int .i64 ((L0 % 16 : Nat) : Int)) :: c5 :: u0 :: c7 :: c8 :: c9 :: c10 :: c11 :: c12 :: c13 :: c14 :: c15 :: c16 :: c17 :: c18 :: c19 :: c20 :: c21 :: c22 :: c23 :: c24 :: c25 :: c26 :: c27 :: c28 :: c29 :: c30 :: c31 :: c32 :: c33 :: c34 :: c35 :: c36 :: c37 :: c38 :: c39 :: c40 :: c41 :: c42 :: c43 :: c44 :: []), []⟩ w := by
  obtain ⟨i0, hi0, hz0, hz1, hz2⟩ := info_parts info_u8
  have HZ : Hid ((Tryd.prog.info? 5).map (·.size) = some 1) := by show _ = _; kernel_rfl
  unfold body_inl
  conv => arg 2; arg 1; whnf
  go_loopw [4, 6] (fun fv u wx => InlRel w0 BB m J E fv u wx) (fun _ u _ => lenOf u)
  case atStart => exact ⟨L0, rest0, rfl, hr0.out, hL0, he0.out, h0.out⟩
  case round =>
    obtain ⟨L, rest, rfl, hr, hL, he, hs⟩ := hrel
    obtain ⟨q, hq⟩ : ∃ q, q = L / 16 := ⟨_, rfl⟩
    obtain ⟨f, hf⟩ : ∃ f, f = L % 16 := ⟨_, rfl⟩
    have f16 : f < 16 := by omega
    have hLq : L = 16 * q + f := by omega
    obtain ⟨hj, hLm, cs, hcl, hct, hcb⟩ := hs
    rw [← hq] at hj hct
    rw [← hf] at hct
    rw [← hf]
    have hlow := hp.out.low _ _ hj
    obtain ⟨A, c, rfl, hc1, hc2, hA⟩ := hr.form
    unfold maxLen at hc2
    have rI : (rest.length : Int) ≤ 1000000 := by omega
    have fI : (f : Int) ≤ 15 := by omega
    by_cases hpos : 0 < rest.length
    · have pI : (0 : Int) < rest.length := by omega
      obtain ⟨n, hn⟩ : ∃ n, n = min rest.length (16 - f) := ⟨_, rfl⟩
      have nI : (n : Int) ≤ 16 := by omega
      have n0 : n ≤ rest.length := by omega
      have hsl : ∀ V, (Instr.sliceAt 91 (.pointer (some ⟨BB, 0, none⟩)) (some (.int .i64 (f : Int))) (some (.int .i64 16)) none).run Tryd.prog V = .ok (.slice (some ⟨BB, f, none⟩) (16 - f) (17 - f)) V := fun V => run_slice_arr V 91 17 5 i0 Tryd.underlying91 hi0 hz1 BB f 16 (f : Int) 16 rfl rfl (by omega) (by omega) (by omega)
      obtain ⟨A2, c2, hs2, hr2⟩ := hr.low (P := Tryd.prog) 26 5 i0 Tryd.underlying26 hi0 hz1 n n0
      have HRA : Hid (Rd wr (.slice A rest.length c) rest) := Lib.hid (hr.below hlow)
      have HCB := Lib.hid hcb
      have HIC := Lib.hid (it_copy (n := n) hcl hct (by rw [← hLq, he, List.take_take, Nat.min_eq_left n0]) n0 (by omega) (by omega))
      have HMN : Hid (n = min rest.length (16 - f)) := Lib.hid hn
      have HFN : Hid (f + n ≤ cs.length) := Lib.hid (by omega)
      have a1 : IntKind.i64.wrap ((f : Int) + (n : Int)) = (f : Int) + (n : Int) := IntWalk.i64_in _ (by omega)
      have HJ := Lib.hid hj
      have HE := Lib.hid he
      have HR2 := Lib.hid hr2
      have HLQ := Lib.hid hLq
      have HQ1 := Lib.hid hq
      have HF1 := Lib.hid hf
      clear hA hr hlow hcb hcl hct he hj hr2 hLq hq hf hn
      by_cases hfull : f + n < 16
      · have gI : (f : Int) + (n : Int) < 16 := by omega
        go_wp2_with (refine wpList_copy_rd rfl (.tmp 18) (.tmp 19) 26 26 rfl 5 Tryd.underlying26 HZ.out (some ⟨BB, f, none⟩) (16 - f) (17 - f) rfl (.slice A rest.length c) rfl rest HRA.out BB f cs 91 HCB.out n HMN.out (fun _ => rfl) HFN.out ?_; intro w2 hb2 hs2; have HB2 := Lib.hid hb2; have HS2 := Lib.hid hs2; clear hb2 hs2)
        go_quiet (fail)
        go_wp2_with (fail)
        have hn2 : n = rest.length := by have := HMN.out; omega
        have e1 : ((f : Int) + (n : Int)) = ((E % 16 : Nat) : Int) := by have := HLQ.out; omega
        rw [e1]
        have so := HS2.out
        have hbl : Below W.heap.size wr (w2.drewN nq) := below_drewN (so.below.mono hp.out.blk) nq
        have e2 : E / 16 = q := by have := HLQ.out; omega
        have e3 : E % 16 = f + n := by have := HLQ.out; omega
        refine HQ.out _ _ _ _ _ _ _ _ _ _ _ _ _ _ _ _ _ _ _ _ _ _ _ (Lib.hid ⟨?_, hE, splice cs f (rest.take n), HIC.out.1, ?_, HB2.out.drewN nq⟩)
        · rw [e2]; exact hp.out.on _ _ _ HJ.out hbl
        · rw [e2, e3]; exact HIC.out.2
      · have gI : ¬ (f : Int) + (n : Int) < 16 := by omega
        have f0 : ∀ V, Blk V BB 91 ((splice cs f (rest.take n)).map bv) → V.frozen? ⟨BB, 16, none⟩ = false ∧ ∃ u, V.cell? ⟨BB, 16, none⟩ = some u := fun V hV => ⟨hV.free _, _, by rw [hV.cell]; exact List.getElem?_eq_getElem (by rw [List.length_map, HIC.out.1]; omega)⟩
        have HF0 := Lib.hid f0
        clear f0
        go_wp2_with (refine wpList_copy_rd rfl (.tmp 18) (.tmp 19) 26 26 rfl 5 Tryd.underlying26 HZ.out (some ⟨BB, f, none⟩) (16 - f) (17 - f) rfl (.slice A rest.length c) rfl rest HRA.out BB f cs 91 HCB.out n HMN.out (fun _ => rfl) HFN.out ?_; intro w2 hb2 hs2; have HB2 := Lib.hid hb2; have HS2 := Lib.hid hs2; clear hb2 hs2)
        go_quiet (fail)
        obtain ⟨w3, hw3⟩ := ex_w (w2.drewN nq)
        have HB3 : Hid (Blk w3 BB 91 ((splice cs f (rest.take n)).map bv)) := Lib.hid (by rw [hw3]; exact HB2.out.drewN nq)
        have HD3 : Hid (Below W.heap.size wr w3) := Lib.hid (by rw [hw3]; exact below_drewN (HS2.out.below.mono hp.out.blk) nq)
        rw [← hw3]
        obtain ⟨f1, u1, g1⟩ := HF0.out w3 HB3.out
        clear hw3 HB2 HS2 hs2
        go_upto_region 10 with (fail)
        obtain ⟨w4, hw4⟩ := ex_w (w3.setCell ⟨BB, 16, none⟩ (.int .u8 1))
        have e16 : f + n = 16 := by have := HMN.out; omega
        have HB4 : Hid (Blk w4 BB 91 ((blkP m q ++ [1]).map bv)) := Lib.hid (by
          have h := HB3.out.set 16 (bv 1)
          have h16 := HIC.out.2
          rw [e16] at h16
          rw [← List.map_set, blk_full HIC.out.1 h16] at h
          rw [hw4]
          exact h)
        have HD4 : Hid (Below W.heap.size wr w4) := Lib.hid (by rw [hw4]; exact HD3.out.trans ((Sole.setCell w3 BB 16 _).below.mono hp.out.blk))
        have HBL : Hid ((blkP m q ++ [1]).length = 17) := Lib.hid (by
          have h1 : (blkP m q).length = 16 := by unfold blkP; rw [List.length_take, List.length_drop]; have := HLQ.out; omega
          rw [List.length_append, h1]; rfl)
        rw [← hw4]
        have HJ4 := Lib.hid (hp.out.on _ _ _ HJ.out HD4.out)
        have HQM : Hid (q < blksN m) := Lib.hid (by unfold blksN; have := HLQ.out; omega)
        clear hw4 f1 g1 HB3 HD3 HJ
        refine (wpIn_wide (n := 2)).1 ?_
        gi_wp2_with (fail)
        refine ⟨trivial, (callsIn_wide.2 (nof_any BB _ _ w4 HB4.out HBL.out)).mono ?_⟩
        rintro e w5 ⟨rfl, hb5⟩
        have HB5 := Lib.hid (HB4.out.below hb5 HB4.out.lt)
        have hj5 := hp.out.on _ _ _ HJ4.out (hb5.mono (by have := hp.out.blk; have := HB4.out.lt; omega))
        obtain ⟨fn, tmps, assign, body, hy, hR⟩ := hp.out.yield q w5 HQM.out hj5
        dsimp only [encB] at hy
        clear hb5 hj5
        gi_wp2_with (fail)
        refine hR.mono ?_
        rintro e w6 ⟨rfl, hj6, hs6, hk6⟩
        have HJ6 := Lib.hid hj6
        have HB6 : Hid (Blk w6 BB 91 ((blkP m q ++ [1]).map bv)) := Lib.hid ((hk6 BB hp.out.blk HB5.out.lt).trans HB5.out)
        clear hR hy hj6 hs6 hk6
        gi_wp2_with (fail)
        go_wp2_with (fail)
        go_roundw
        case rel =>
          have hq2 : (L + n) / 16 = q + 1 := by have := HLQ.out; omega
          have hf2 : (L + n) % 16 = 0 := by have := HLQ.out; omega
          refine ⟨L + n, rest.drop n, by rw [hf2]; rfl, ?_, by rw [List.length_drop]; omega, ?_, ?_, by omega, blkP m q ++ [1], HBL.out, ?_, HB6.out⟩
          · exact HR2.out
          · have h := congrArg (List.drop n) HE.out
            rw [List.drop_take, List.drop_drop] at h
            rw [List.length_drop]
            exact h
          · rw [hq2]; exact HJ6.out
          · rw [hf2]; rfl
        case measure => simp [lenOf]; omega
    · have h0 : rest = [] := List.eq_nil_of_length_eq_zero (by omega)
      subst h0
      have hLE : L = E := by simpa using hL
      subst hLE
      have HS : Hid (ItS BB m J L wr) := Lib.hid ⟨by rw [← hq]; exact hj, hLm, cs, hcl, by rw [← hf, ← hq]; exact hct, hcb⟩
      have HF1 := Lib.hid hf
      clear hA hr hlow hcb hcl hct he hj hLq hq hf
      go_wp2_with (fail)
      rw [HF1.out]
      exact HQ.out _ _ _ _ _ _ _ _ _ _ _ _ _ _ _ _ _ _ _ _ _ _ _ HS
end Go.Proofs.YtmoffodmbbkolaaDoor

/- The contract of poly's blocks: whatever the caller keeps between two rounds holds behind all of them. Conditions: at most a million bytes; a round goes on, and keeps what the iterator has laid. -/
namespace Go.Proofs.YtmoffodmbbkolaaDoor
open Go.RowKit Go.Shelf

/-- The parts, as a slice of slices, nil let in. -/
def PartsP (w : World) (v : Value) (xss : List (List UInt8)) : Prop :=
  ∃ Ad c, v = .slice Ad xss.length c ∧ ∀ i (h : i < xss.length), ∃ g u, Ad = some ⟨g, 0, none⟩ ∧ g < w.heap.size ∧ w.cell? ⟨g, i, none⟩ = some u ∧ Rd w u xss[i]
theorem parts_of {w : World} {v : Value} {xss : List (List UInt8)} (h : Rs w v xss ∨ (v = .slice none 0 0 ∧ xss = [])) : PartsP w v xss := by
  rcases h with ⟨g, c, rfl, hg, hc⟩ | ⟨rfl, rfl⟩
  · exact ⟨_, c, rfl, fun i hi => by obtain ⟨u, h1, h2⟩ := hc i hi; exact ⟨g, u, rfl, hg, h1, h2⟩⟩
  · exact ⟨none, 0, rfl, fun i hi => by simp at hi⟩
def sumL (xss : List (List UInt8)) (p : Nat) : Nat := ((xss.take p).flatten).length
theorem sumL_succ {xss : List (List UInt8)} {p : Nat} (h : p < xss.length) : sumL xss p + xss[p].length = sumL xss (p + 1) := by
  unfold sumL
  rw [List.take_succ_eq_append_getElem h, List.flatten_append, List.length_append]
  simp
theorem sumL_le (xss : List (List UInt8)) (p : Nat) : sumL xss p ≤ xss.flatten.length := by
  have h : xss.flatten = (xss.take p).flatten ++ (xss.drop p).flatten := by rw [← List.flatten_append, List.take_append_drop]
  unfold sumL
  rw [h, List.length_append]
  omega
theorem sumL_all (xss : List (List UInt8)) : sumL xss xss.length = xss.flatten.length := by unfold sumL; rw [List.take_length]
theorem part_at {xss : List (List UInt8)} {p : Nat} (h : p < xss.length) : xss[p] = (xss.flatten.drop (sumL xss p)).take xss[p].length := by
  have h1 : xss.flatten = (xss.take p).flatten ++ (xss[p] ++ (xss.drop (p + 1)).flatten) := by
    rw [← List.flatten_cons, ← List.drop_eq_getElem_cons h, ← List.flatten_append, List.take_append_drop]
  unfold sumL
  rw [h1, List.drop_left, List.take_left]
def OulRel (BB : Nat) (m : List UInt8) (J : Nat → World → Prop) (xss : List (List UInt8)) (fv v : Value) (A : World) : Prop :=
  ∃ p : Nat, v = .int .i64 (p : Int) ∧ p ≤ xss.length ∧ fv = .int .i64 ((sumL xss p % 16 : Nat) : Int) ∧ ItS BB m J (sumL xss p) A
noncomputable def body_oul : Code := (((Tryd.f50.body.map loopsOf).getD [])[0]?).getD .skip
set_option maxRecDepth 100000 in
set_option maxHeartbeats 4000000 in
theorem oul_loop (c1 c2 c5 c6 c7 c11 c12 c13 c14 c15 c16 c17 c18 c19 c20 c21 c22 c23 c24 c25 c26 c27 c28 c29 c30 c31 c32 c33 c34 c35 c36 c37 c38 c39 c40 c41 c42 c43 c44 : Value) (w0 W : World) (BB l c : Nat) (Ad : Option Addr) (m : List UInt8) (xss : List (List UInt8)) (J : Nat → World → Prop) (w : World) (hp : Hid (ItP w0 W BB l m J)) (hmx : Hid (m = xss.flatten)) (hm : m.length ≤ 1000000) (hx : xss.length ≤ 1000000)
    (hpt : Hid (∀ i (h : i < xss.length), ∃ g u, Ad = some ⟨g, 0, none⟩ ∧ g < w0.heap.size ∧ w0.cell? ⟨g, i, none⟩ = some u ∧ Rd w0 u xss[i])) (h0 : Hid (ItS BB m J 0 w)) {Q : Exit → Act → World → Prop}
    (HQ : Hid (∀ (u6 u7 u10 u11 u12 u13 u14 u15 u16 u17 u18 u19 u20 u21 u22 u23 u24 u25 u26 u27 u28 u29 u30 u31 u32 u33 u34 : Value) (wx : World), Hid (ItS BB m J m.length wx) → Q (.exit 0) ⟨List.toArray ((.func (.yield l) #[] #[]) :: c1 :: c2 :: (.pointer (some ⟨BB, 0, none⟩)) :: (.int .i64 ((m.length % 16 : Nat) : Int)) :: c5 :: u6 :: u7 :: (.slice Ad xss.length c) :: (.int .i64 (xss.length : Int)) :: u10 :: u11 :: u12 :: u13 :: u14 :: u15 :: u16 :: u17 :: u18 :: u19 :: u20 :: u21 :: u22 :: u23 :: u24 :: u25 :: u26 :: u27 :: u28 :: u29 :: u30 :: u31 :: u32 :: u33 :: u34 :: c35 :: c36 :: c37 :: c38 :: c39 :: c40 :: c41 :: c42 :: c43 :: c44 :: []), []⟩ wx)) :
    (Code.loop body_oul).wp Tryd.prog Q ⟨List.toArray ((.func (.yield l) #[] #[]) :: c1 :: c2 :: (.pointer (some ⟨BB, 0, none⟩)) :: (.int .i64 0) :: c5 :: c6 :: c7 :: (.slice Ad xss.length c) :: (.int .i64 (xss.length : Int)) :: (.int .i64 0) :: c11 :: c12 :: c13 :: c14 :: c15 :: c16 :: c17 :: c18 :: c19 :: c20 :: c21 :: c22 :: c23 :: c24 :: c25 :: c26 :: c27 :: c28 :: c29 :: c30 :: c31 :: c32 :: c33 :: c34 :: c35 :: c36 :: c37 :: c38 :: c39 :: c40 :: c41 :: c42 :: c43 :: c44 :: []), []⟩ w := by
  have xI : (xss.length : Int) ≤ 1000000 := by omega
  unfold body_oul
  conv => arg 2; arg 1; whnf
  go_loopw [4, 10] (fun fv v wx => OulRel BB m J xss fv v wx) (fun _ v _ => xss.length - (intOf v).toNat)
  case atStart => exact ⟨0, rfl, by omega, rfl, h0.out⟩
  case round =>
    obtain ⟨p, rfl, hpl, rfl, hs⟩ := hrel
    have HS := Lib.hid hs
    by_cases hlt : p < xss.length
    · have pI : (p : Int) < xss.length := by omega
      obtain ⟨g, u, rfl, hg, hc, hr⟩ := hpt.out p hlt
      have cu := (((hp.out.low _ _ hs.1)).cell (p := ⟨g, p, none⟩) hg).trans hc
      have HR := Lib.hid hr
      have HE := Lib.hid (part_at hlt)
      have HSS := Lib.hid (sumL_succ hlt)
      have HLE : Hid (sumL xss (p + 1) ≤ m.length) := Lib.hid (by rw [hmx.out]; exact sumL_le _ _)
      have HE2 : Hid (xss[p] = (m.drop (sumL xss p)).take xss[p].length) := Lib.hid (by rw [hmx.out]; exact HE.out)
      obtain ⟨xs, hxs⟩ : ∃ xs, xs = xss[p] := ⟨_, rfl⟩
      rw [← hxs] at HR HSS HE2
      clear hs hc hr hpl hxs HE
      go_wp2_with (fail)
      refine inl_loop _ _ _ _ _ _ _ _ _ _ _ _ _ _ _ _ _ _ _ _ _ _ _ _ _ _ _ _ _ _ _ _ _ _ _ _ _ _ _ _ _ w0 W BB l (sumL xss p) (sumL xss (p + 1)) m xs u J wr hp HLE.out HR HSS.out HE2 HS hm (Lib.hid ?_)
      intro u6 u7 u14 u15 u16 u17 u18 u19 u20 u21 u22 u23 u24 u25 u26 u27 u28 u29 u30 u31 u32 u33 wx hs2
      go_wp2_with (fail)
      go_roundw
      case rel => exact ⟨p + 1, by go_num, by omega, rfl, hs2.out⟩
      case measure => simp [intOf]; omega
    · obtain rfl : p = xss.length := by omega
      have HS2 : Hid (ItS BB m J m.length wr) := Lib.hid (by rw [hmx.out, ← sumL_all]; rw [hmx.out] at hs; exact hs)
      have HEE : Hid (sumL xss xss.length = m.length) := Lib.hid (by rw [sumL_all, hmx.out])
      clear hs
      go_wp2_with (fail)
      rw [HEE.out]
      exact HQ.out _ _ _ _ _ _ _ _ _ _ _ _ _ _ _ _ _ _ _ _ _ _ _ _ _ _ _ _ HS2
theorem numB_zeros (xs : List UInt8) (n : Nat) : numB (xs ++ List.replicate n 0) = numB xs := by
  induction n with
  | zero => simp
  | succ n ih => rw [List.replicate_succ', ← List.append_assoc, numB_z, ih]
theorem clear_end {m cs : List UInt8} {q f : Nat} (hl : cs.length = 17) (hf : f < 16) (hc : cs.take f = (m.drop (16 * q)).take f) (hm : m.length = 16 * q + f) : clearL ((cs.set f 1).map bv) (f + 1) (16 - f) (.int .u8 0) = (blkP m q ++ [1] ++ List.replicate (16 - f) 0).map bv := by
  have h1 : blkP m q = cs.take f := by
    unfold blkP
    rw [hc, List.take_of_length_le (by rw [List.length_drop]; omega), List.take_of_length_le (by rw [List.length_drop]; omega)]
  have h2 : (cs.set f 1).take (f + 1) = cs.take f ++ [1] := by
    rw [List.take_succ_eq_append_getElem (by rw [List.length_set]; omega), List.getElem_set_self, List.take_set_of_le (Nat.le_refl f)]
  unfold clearL
  rw [← List.map_take, h2, h1, List.drop_of_length_le (by rw [List.length_map, List.length_set]; omega)]
  simp [bv]
set_option maxRecDepth 100000 in
set_option maxHeartbeats 4000000 in
theorem blks1_any (w0 W : World) (l PB : Nat) (v : Value) (m : List UInt8) (xss : List (List UInt8)) (J : Nat → World → Prop) (hpt : PartsP w0 v xss) (hmx : m = xss.flatten) (hm : m.length ≤ 1000000) (hx : xss.length ≤ 1000000) (hcell : W.cell? ⟨PB, 0, none⟩ = some v) (hPB : PB < W.heap.size) (hp : ItP w0 W W.heap.size l m J) (h0 : J 0 W) :
    Calls Tryd.prog 50 #[.func (.yield l) #[] #[], .pointer (some ⟨PB, 0, none⟩)] W fun e W' => e = .returned (.tuple #[]) ∧ J (blksN m) W' := by
  obtain ⟨i0, hi0, hz0, hz1, hz2⟩ := info_parts info_u8
  obtain ⟨Ad, c, rfl, hparts⟩ := hpt
  have HPT := Lib.hid hparts
  have HP := Lib.hid hp
  have HMX := Lib.hid hmx
  obtain ⟨W1, hW1⟩ := ex_w (W.alloc (.cells (List.replicate 17 (Value.int .u8 0)).toArray 91))
  have HB1 : Hid (Blk W1 W.heap.size 91 ((List.replicate 17 (0 : UInt8)).map bv)) := Lib.hid (by rw [hW1, List.map_replicate]; exact Blk.made W _ _)
  have HD1 : Hid (Below W.heap.size W W1) := Lib.hid (by rw [hW1]; exact (Below.refl _ _).alloc (Nat.le_refl _) _)
  have HS1 : Hid (ItS W.heap.size m J 0 W1) := Lib.hid ⟨hp.on _ _ _ h0 HD1.out, by omega, List.replicate 17 0, by simp, by simp, HB1.out⟩
  have c1 : W1.cell? ⟨PB, 0, none⟩ = some (.slice Ad xss.length c) := ((HD1.out.cell (p := ⟨PB, 0, none⟩) hPB)).trans hcell
  have hW1' := hW1
  simp only [List.replicate_succ, List.replicate_zero] at hW1'
  have HW1 := Lib.hid hW1'
  clear hparts hp hmx hW1 hW1' h0 hcell
  go_enter Tryd.func50, Tryd.ntmps50
  go_upto_region 1 with (fail)
  rw [← HW1.out]
  go_wp2_with (fail)
  refine oul_loop _ _ _ _ _ _ _ _ _ _ _ _ _ _ _ _ _ _ _ _ _ _ _ _ _ _ _ _ _ _ _ _ _ _ _ _ _ _ _ w0 W W.heap.size l c Ad m xss J W1 HP HMX hm hx HPT HS1 (Lib.hid ?_)
  intro u6 u7 u10 u11 u12 u13 u14 u15 u16 u17 u18 u19 u20 u21 u22 u23 u24 u25 u26 u27 u28 u29 u30 u31 u32 u33 u34 w2 hs2
  obtain ⟨q, hq⟩ : ∃ q, q = m.length / 16 := ⟨_, rfl⟩
  obtain ⟨f, hf⟩ : ∃ f, f = m.length % 16 := ⟨_, rfl⟩
  have f16 : f < 16 := by omega
  obtain ⟨hj, _, cs, hcl, hct, hcb⟩ := hs2.out
  rw [← hq] at hj hct
  rw [← hf] at hct
  rw [← hf]
  have fI : (f : Int) ≤ 15 := by omega
  by_cases hpos : 0 < f
  · have pI : (0 : Int) < f := by omega
    have HJ := Lib.hid hj
    have HML : Hid (m.length = 16 * q + f) := Lib.hid (by omega)
    have HCE := Lib.hid (clear_end (m := m) (q := q) hcl f16 hct HML.out)
    have HCL := Lib.hid hcl
    have HCB := Lib.hid hcb
    have f0 : w2.frozen? ⟨W.heap.size, f, none⟩ = false := hcb.free _
    obtain ⟨u, hu⟩ : ∃ u, w2.cell? ⟨W.heap.size, f, none⟩ = some u := ⟨_, by rw [hcb.cell]; exact List.getElem?_eq_getElem (by rw [List.length_map]; omega)⟩
    obtain ⟨w3, hw3⟩ := ex_w (w2.setCell ⟨W.heap.size, f, none⟩ (.int .u8 1))
    have HB3 : Hid (Blk w3 W.heap.size 91 ((cs.set f 1).map bv)) := Lib.hid (by
      have h := hcb.set f (bv 1)
      rw [← List.map_set] at h
      rw [hw3]
      exact h)
    have HD3 : Hid (Below W.heap.size w2 w3) := Lib.hid (by rw [hw3]; exact (Sole.setCell w2 W.heap.size f _).below)
    have HW3 := Lib.hid hw3
    obtain ⟨o, n, hn, ho, hsl⟩ := run_slice_arr_l' (P := Tryd.prog) 91 17 5 i0 Tryd.underlying91 hi0 hz1 W.heap.size (f + 1) ((f : Int) + 1) (by omega) (by omega)
    have ho2 : o = f + 1 := ho (by omega)
    have hn2 : n = 16 - f := by omega
    subst ho2 hn2
    have hzv : ∀ w, (zeroValue 5).run Tryd.prog w = .ok (.int .u8 0) w := fun w => by simp [zeroValue, typeInfo, hi0, hz0]
    have HZV := Lib.hid hzv
    have HYL : Hid ((blkP m q ++ [1] ++ List.replicate (16 - f) 0).length = 17) := Lib.hid (by
      have h1 : (blkP m q).length = f := by unfold blkP; rw [List.length_take, List.length_drop]; omega
      rw [List.length_append, List.length_append, h1, List.length_replicate]
      simp
      omega)
    have HQM : Hid (q < blksN m ∧ q + 1 = blksN m) := Lib.hid (by unfold blksN; omega)
    clear hj hct hcl hcb hw3 hq hf ho hzv hs2 hn
    go_upto_region 15 with (fail)
    rw [← HW3.out]
    clear f0 hu HCB
    go_upto_region 16 with (refine wpList_clear_blk rfl (.tmp 41) 26 rfl 5 (.int .u8 0) Tryd.underlying26 HZV.out rfl rfl W.heap.size (f + 1) (f + 1) (16 - f) (16 - f) 91 _ HB3.out rfl (fun _ => rfl) (by rw [List.length_map, List.length_set, HCL.out]; omega) ?_; intro w4 hb4 hs4; rw [HCE.out] at hb4; have HB4 := Lib.hid hb4; have HS4 := Lib.hid hs4; clear hb4 hs4)
    have HD4 : Hid (Below W.heap.size w2 w4) := Lib.hid (HD3.out.trans HS4.out.below)
    have HJ4 := Lib.hid (HP.out.on _ _ _ HJ.out HD4.out)
    refine (wpIn_wide (n := 2)).1 ?_
    gi_wp2_with (fail)
    refine ⟨trivial, (callsIn_wide.2 (nof_any W.heap.size _ _ w4 HB4.out HYL.out)).mono ?_⟩
    rintro e w5 ⟨rfl, hb5⟩
    rw [numB_zeros]
    have hj5 := HP.out.on _ _ _ HJ4.out (hb5.mono (Nat.le_of_lt HB4.out.lt))
    obtain ⟨fn, tmps, assign, body, hy, hR⟩ := HP.out.yield q w5 HQM.out.1 hj5
    dsimp only [encB] at hy
    clear hb5 hj5
    gi_wp2_with (fail)
    refine hR.mono ?_
    rintro e w6 ⟨rfl, hj6, hs6, hk6⟩
    have HJ6 := Lib.hid hj6
    clear hR hy hj6 hs6 hk6
    gi_wp2_with (fail)
    go_wp2_with (fail)
    go_end0
    exact ⟨rfl, by rw [← HQM.out.2]; exact HJ6.out⟩
  · obtain rfl : f = 0 := by omega
    have HJ : Hid (J (blksN m) w2) := Lib.hid (by
      have e : blksN m = q := by unfold blksN; omega
      rw [e]
      exact hj)
    clear hj hct hcl hcb hq hf hs2
    go_wp2_with (fail)
    go_end0
    exact ⟨rfl, HJ.out⟩
end Go.Proofs.YtmoffodmbbkolaaDoor

/- A law for a range over a function whose iterator writes cells of its own: the caller's invariant speaks of what lay ahead of the loop. Conditions: each round goes on, and changes no block that was laid since the loop began. -/
namespace Go.Proofs.YtmoffodmbbkolaaDoor
open Go.RowKit Go.Shelf

/-- How a round's body ends: it goes on; what lay at or beyond B lies as it lay. -/
def lowPost (B : Nat) (A : World) (I : World → Prop) : Exit → Act → World → Prop
  | .normal, _, V => I V ∧ A.heap.size ≤ V.heap.size ∧ ∀ k, B ≤ k → k < A.heap.size → V.heap[k]? = A.heap[k]?
  | _, _, _ => False
theorem below_putObj {B : Nat} (W : World) (l : Nat) (o : Obj) (h : B ≤ l) : Below B W (W.putObj l o) :=
  ⟨rfl, rfl, rfl, by simp, fun k hk => World.putObj_heap_other (by omega)⟩
theorem wpIn_rangeFunc_low {P : Program} {g : Operand} {ps : Array Tmp} {assign body : Code} {Q : Exit → Act → World → Prop} {a : Act} {w : World} {gf : Nat} {lb : Array Value}
    (hg : a.eval g = .func (.func gf) #[] lb) (eg : ∀ args w, (callFunc gf args).run P w = .ok (.enter gf args) w) (hps : ps.size = 1) (N : Nat) (enc : Nat → Value) (J : Nat → World → Prop) (AP : Nat → World → Act → World → Prop)
    (hJ : ∀ j A B, J j A → Below w.heap.size A B → J j B) (h0 : J 0 w)
    (hseq : ∀ (l : Nat) (W : World) (I : Nat → World → Prop), Below w.heap.size w W → (∀ j A, I j A → J j A) → (∀ j A B, I j A → Below W.heap.size A B → I j B) →
      (∀ j A, j < N → I j A → YieldAt Fence.wide 1 P l #[enc j] A fun e B => e = .returned (.bool true) ∧ I (j + 1) B ∧ A.heap.size ≤ B.heap.size ∧ ∀ k, W.heap.size ≤ k → k < A.heap.size → B.heap[k]? = A.heap[k]?) →
      I 0 W → CallsIn Fence.wide 2 P gf (#[.func (.yield l) #[] #[]] ++ lb) W fun e W' => (∃ v, e = .returned v) ∧ I N W')
    (hassign : ∀ (l j : Nat) (A : World) (K : Act → World → Prop), j < N → J j A → w.heap.size ≤ A.heap.size → (∀ a₁ A₁, AP j A a₁ A₁ → Below A.heap.size A A₁ → K a₁ A₁) →
      assign.wpIn (Fence.wide.inRound l) 1 P (Exit.then K (fun _ _ _ => False)) { tmps := (ps.zip #[enc j]).foldl (fun t (p, v) => t.setIfInBounds p v) a.tmps, defers := [] } A)
    (hbody : ∀ (l j : Nat) (A A₁ A₂ : World) (a₁ : Act), j < N → J j A → AP j A a₁ A₁ → Below A.heap.size A A₁ → w.heap.size ≤ l → l < A.heap.size → A₂.heap.size = A₁.heap.size → (∀ k, k ≠ l → A₂.heap[k]? = A₁.heap[k]?) → Below w.heap.size A₁ A₂ →
      body.wpIn (Fence.wide.inRound l) 1 P (lowPost w.heap.size A₂ (J (j + 1))) a₁ A₂)
    (hdone : ∀ W : World, J N W → w.heap.size < W.heap.size → W.heap[w.heap.size]? = some (.deferred (some [])) → Q .normal { a with defers := { target := .collected w.heap.size, args := #[] } :: a.defers } W) :
    (Code.rangeFunc g ps assign body).wpIn Fence.wide 3 P Q a w := by
  refine wpIn_rangeFunc ?_
  intro fn _
  obtain ⟨rec, hrec⟩ : ∃ rec : LoopState → Option Code → Loop, rec = fun st pe => { state := st, pending := pe, fn, tmps := a.tmps, params := ps, assign, body, defers := w.heap.size } := ⟨_, rfl⟩
  obtain ⟨W1, hW1⟩ : ∃ V, V = (w.alloc (.deferred (some []))).alloc (.loop (rec .ready none)) := ⟨_, rfl⟩
  have hsz : W1.heap.size = w.heap.size + 1 + 1 := by rw [hW1]; simp
  have hL : W1.heap[w.heap.size + 1]? = some (.loop (rec .ready none)) := by
    have h := World.alloc_heap_new (w.alloc (.deferred (some []))) (.loop (rec .ready none))
    rw [World.size_alloc] at h
    rw [hW1]
    exact h
  have hD : W1.heap[w.heap.size]? = some (.deferred (some [])) := by
    rw [hW1]
    exact (Below.heap_alloc _ _ _ (by simp)).trans (World.alloc_heap_new w _)
  have hbel : Below w.heap.size w W1 := by
    rw [hW1]
    exact ((Below.refl _ w).alloc (Nat.le_refl _) _).alloc (by simp) _
  refine ⟨w.heap.size + 1, [{ target := .collected w.heap.size, args := #[] }], W1, { target := .fn (.func gf) lb, args := #[.func (.yield (w.heap.size + 1)) #[] #[]] }, W1, gf, #[.func (.yield (w.heap.size + 1)) #[] #[]] ++ lb, W1, ?_, ?_, fun _ _ => trivial, ?_, fun _ => by omega, ?_⟩
  · rw [hW1, hrec]
    exact run_enterLoop_outer _ _ _ _ _
  · simp only [resolve, hg]
    simp [go_sem]
  · simp [invoke, go_sem, eg]
  refine (hseq (w.heap.size + 1) W1 (fun j A => J j A ∧ A.heap[w.heap.size + 1]? = some (.loop (rec .ready none)) ∧ A.heap[w.heap.size]? = some (.deferred (some []))) hbel (fun j A h => h.1) (fun j A B h hb => ⟨hJ j A B h.1 (hb.mono (by omega)), (hb.block _ (by omega)).trans h.2.1, (hb.block _ (by omega)).trans h.2.2⟩) ?_ ⟨hJ 0 w W1 h0 hbel, hL, hD⟩).mono ?_
  · -- one round
    rintro j A hjN ⟨hj, hl, hd⟩
    have hlt : w.heap.size + 1 < A.heap.size := (Array.getElem?_eq_some_iff.1 hl).1
    have hy := run_yield (P := P) (args := #[enc j]) hl (by rw [hrec]; exact hps.symm)
    rw [hrec] at hy
    refine ⟨fn, _, assign, body, hy, roundIn_of_wpIn trivial (hassign _ j A _ hjN hj (by omega) fun a₁ A₁ hap hb1 => ?_)⟩
    have hl1 : A₁.heap[w.heap.size + 1]? = some (.loop (rec .ready none)) := (hb1.block _ hlt).trans hl
    have hlt1 : w.heap.size + 1 < A₁.heap.size := (Array.getElem?_eq_some_iff.1 hl1).1
    refine ⟨A₁.putObj (w.heap.size + 1) (.loop { rec .ready none with state := .busy }), run_beginRound hl1 (by rw [hrec]), ?_⟩
    refine wpIn_mono (hbody (w.heap.size + 1) j A A₁ _ a₁ hjN hj hap hb1 (by omega) hlt (by simp) (fun k hk => World.putObj_heap_other hk) (below_putObj _ _ _ (by omega))) ?_
    rintro e a3 V hp
    cases e with
    | normal =>
      obtain ⟨hi, hsz3, hk3⟩ := hp
      rw [World.putObj_size] at hsz3 hk3
      have hl3 : V.heap[w.heap.size + 1]? = some (.loop { rec .ready none with state := .busy }) := (hk3 _ (by omega) hlt1).trans (World.putObj_heap_same hlt1)
      have hd3 : V.heap[w.heap.size]? = some (.deferred (some [])) := (hk3 _ (by omega) (by omega)).trans ((World.putObj_heap_other (by omega)).trans ((hb1.block _ (by omega)).trans hd))
      have hend := run_endRound (P := P) none hl3
      rw [hrec] at hend hl3
      have hb4 : Below w.heap.size V (V.putObj (w.heap.size + 1) (.loop (rec .ready none))) := below_putObj _ _ _ (by omega)
      have hsz2 : A.heap.size ≤ A₁.heap.size := hb1.size
      refine ⟨_, _, hend, rfl, ⟨?_, ?_, ?_⟩, ?_, fun k hk1 hk2 => ?_⟩
      · rw [hrec] at hb4
        exact hJ _ _ _ hi hb4
      · rw [hrec]
        exact World.putObj_heap_same (by omega)
      · exact (World.putObj_heap_other (by omega)).trans hd3
      · rw [World.putObj_size]; omega
      · rw [World.putObj_heap_other (by omega), hk3 k (by omega) (by omega), World.putObj_heap_other (by omega)]
        exact hb1.block k hk2
    | ret => exact hp.elim
    | exit id => exact hp.elim
    | goto t => exact hp.elim
    | panic ch => exact hp.elim
    | outgrown => exact hp.elim
  · -- behind the iterator
    rintro e W2 ⟨⟨v, rfl⟩, hj, hl, hd⟩
    have hlt : w.heap.size + 1 < W2.heap.size := (Array.getElem?_eq_some_iff.1 hl).1
    have hend := run_endLoop (P := P) hl (by rw [hrec]; simp)
    rw [hrec] at hend
    refine ⟨none, _, hend, ?_⟩
    refine hdone _ (hJ _ _ _ hj (below_putObj _ _ _ (by omega))) (by rw [World.putObj_size]; omega) ((World.putObj_heap_other (by omega)).trans hd)
end Go.Proofs.YtmoffodmbbkolaaDoor

/- A round's frame: what is walked as plain code, with no defer statement in it, is walked so in a round. No condition of its own. -/
namespace Go.Proofs.YtmoffodmbbkolaaDoor
open Go.RowKit Go.Shelf

theorem oper_inRound {P : Program} {n l : Nat} {o : Oper} {a : Act} {w : World} {K : Act → World → Prop} {Q : Exit → Act → World → Prop} (hd : ∀ c, o.op ≠ .defer c) (h : o.wp P a w K Q) : o.wpIn (Fence.wide.inRound l) n P a w K Q := by
  unfold Oper.wp at h
  unfold Oper.wpIn
  refine ⟨fun _ _ => trivial, ?_⟩
  rw [Oper.semAt_plain (Fence.wide.inRound l) _ _ hd]
  generalize (execOp a.eval o).run P w = r at *
  cases r with
  | ok x w' =>
    cases x <;> simp only [Oper.upon, Oper.uponIn] at h ⊢
    case enter f args => exact ⟨fun e => (by cases e), CallsIn.inRound l (callsIn_wide.2 h)⟩
    case row row args => exact ⟨fun e => (by cases e), fun c cs _ => let ⟨v, w'', h1, h2⟩ := h c cs; ⟨v, w'', h1, stepsIn_wide.2 h2⟩⟩
    all_goals first | exact h | exact h.elim
  | halt x w' => cases x <;> simp only [Oper.upon, Oper.uponIn] at h ⊢ <;> first | exact h | exact h.elim
theorem wpOp_inRound {P : Program} {n l : Nat} {ops : Array Oper} {Q : Exit → Act → World → Prop} (hQ : ¬ LetsOut Q) (hd : ∀ o ∈ ops, ∀ c, o.op ≠ .defer c) {i : Nat} {K : Act → World → Prop} {a : Act} {w : World} (h : wpOp P ops Q i K a w) : wpOpIn (Fence.wide.inRound l) n P ops Q i K a w := by
  unfold wpOp at h
  unfold wpOpIn
  cases ho : ops[i]? with
  | none => simpa [ho] using h
  | some o =>
    simp only [ho] at h ⊢
    split
    · rename_i hw
      simp only [hw, if_true] at h
      exact oper_inRound (hd o (Array.mem_of_getElem? ho)) (h.resolve_right fun h => hQ h.2)
    · rename_i hw
      simp only [hw] at h
      exact ⟨fun _ _ => trivial, h⟩
theorem wpAny_inRound {P : Program} {n l : Nat} {md : Region.Mode} {ops : Array Oper} {Q : Exit → Act → World → Prop} (hQ : ¬ LetsOut Q) (hd : ∀ o ∈ ops, ∀ c, o.op ≠ .defer c) : ∀ (fuel : Nat) (listed : Array Bool) (a : Act) (w : World), wpAny P md ops Q fuel listed a w → wpAnyIn (Fence.wide.inRound l) n P md ops Q fuel listed a w
  | 0, _, _, _, h => h
  | fuel + 1, _listed, _a, _w, h => ⟨h.1, fun i hi => wpOpIn_mono (fun a' w' h' => wpAny_inRound hQ hd fuel _ a' w' h') (wpOp_inRound hQ hd (h.2 i hi))⟩
theorem wpList_inRound {P : Program} {n l : Nat} {ops : Array Oper} {Q : Exit → Act → World → Prop} (hQ : ¬ LetsOut Q) : ∀ (os : List Oper) (_ : ∀ o ∈ os, ∀ c, o.op ≠ .defer c) (a : Act) (w : World), wpList P ops Q os a w → wpListIn (Fence.wide.inRound l) n P ops Q os a w
  | [], _, _, _, h => h
  | o :: os, hd, a, w, h => by
    simp only [wpList] at h
    simp only [wpListIn]
    split
    · rename_i hw
      simp only [hw, if_true] at h
      exact Oper.wpIn_mono (fun a' w' h' => wpList_inRound hQ os (fun o ho => hd o (by simp [ho])) a' w' h') (oper_inRound (hd o (by simp)) (h.resolve_right fun h => hQ h.2))
    · rename_i hw
      simp only [hw] at h
      exact ⟨fun _ _ => trivial, wpList_inRound hQ os (fun o ho => hd o (by simp [ho])) _ _ h⟩
/-- A region that draws its order, in a round. -/
theorem drawn_inRound {P : Program} {n l id : Nat} {ops : Array Oper} {Q : Exit → Act → World → Prop} {a : Act} {w : World} {S : World → Prop} (hQ : ¬ LetsOut Q) (hd : ∀ o ∈ ops, ∀ c, o.op ≠ .defer c) (hm : P.follows .mixedOrders = true) (h : wpAnyH P .any ops Q S ops.size (Array.replicate ops.size false) a w.drew) :
    (Code.region id ops true).wpIn (Fence.wide.inRound l) n P Q a w :=
  wpIn_region_any hm (wpAny_inRound hQ hd _ _ _ _ (wpAny_of_held _ _ _ _ h))
/-- A plain region, in a round. -/
theorem plain_inRound {P : Program} {n l id : Nat} {ops : Array Oper} {Q : Exit → Act → World → Prop} {a : Act} {w : World} (hQ : ¬ LetsOut Q) (hd : ∀ o ∈ ops.toList, ∀ c, o.op ≠ .defer c) (h : wpList P ops Q ops.toList a w) :
    (Code.region id ops false).wpIn (Fence.wide.inRound l) n P Q a w :=
  wpIn_region_list (wpList_inRound hQ _ hd _ _ h)
end Go.Proofs.YtmoffodmbbkolaaDoor
