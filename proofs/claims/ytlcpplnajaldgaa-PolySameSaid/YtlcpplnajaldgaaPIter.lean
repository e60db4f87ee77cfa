/- poly's blocks: what its loops keep, and the loop over one part. Conditions: a round of the caller's goes on, and keeps what the iterator has laid. -/
import Derived.Test.YtlcpplnajaldgaaLHalf
import Derived.RangeFuncNested
import Derived.RangeFuncBound
import Derived.RangeFuncCalls
import Derived.RangeFuncLeaves
import Derived.Shelf.Abstract
import Derived.Shelf.RegionOpen
import Derived.OwnWalkIn
import Derived.TacticsInMore
import Derived.LoopNIn
import Derived.LoopIn
import Derived.Deep.Cut
namespace Go.Proofs.Ytlcpplnajaldgaa
open Go.RowKit Go.Shelf

/-- What is handed to yield: the limbs of a block's number. -/
def encB (m : List UInt8) (j : Nat) : Value := .agg ((lim (numB (blkP m j ++ [1]))).map wq).toArray
/-- What the iterator may ask of its caller. -/
structure ItP (w0 W : World) (BB l : Nat) (m : List UInt8) (J : Nat → World → Prop) : Prop where
  size : w0.heap.size ≤ W.heap.size
  blk : W.heap.size ≤ BB
  low : ∀ j A, J j A → Below w0.heap.size w0 A
  on : ∀ j A B, J j A → Below W.heap.size A B → J j B
  yield : ∀ j A, j < blksN m → J j A → YieldAt Fence.wide 1 Try.prog l #[encB m j] A fun e B => e = .returned (.bool true) ∧ J (j + 1) B ∧ A.heap.size ≤ B.heap.size ∧ ∀ k, W.heap.size ≤ k → k < A.heap.size → B.heap[k]? = A.heap[k]?
/-- Where L bytes have gone through: the whole blocks among them are handed on, the rest lies in the array. -/
def ItS (BB : Nat) (m : List UInt8) (J : Nat → World → Prop) (L : Nat) (A : World) : Prop :=
  J (L / 16) A ∧ L ≤ m.length ∧ ∃ cs : List UInt8, cs.length = 17 ∧ cs.take (L % 16) = (m.drop (16 * (L / 16))).take (L % 16) ∧ Blk A BB 57 (cs.map bv)
theorem it_copy {m cs rest : List UInt8} {q f n : Nat} (hl : cs.length = 17) (hc : cs.take f = (m.drop (16 * q)).take f) (hr : rest.take n = (m.drop (16 * q + f)).take n) (hn : n ≤ rest.length) (hf : f + n ≤ 16) (_hm : 16 * q + f + n ≤ m.length) :
    (splice cs f (rest.take n)).length = 17 ∧ (splice cs f (rest.take n)).take (f + n) = (m.drop (16 * q)).take (f + n) := by
  have h1 : (rest.take n).length = n := by rw [List.length_take]; omega
  have h2 : (cs.take f).length = f := by rw [List.length_take]; omega
  constructor
  · unfold splice
    rw [List.length_append, List.length_append, h1, h2, List.length_drop]
    omega
  · unfold splice
    rw [← List.append_assoc, List.take_append_of_le_length (by rw [List.length_append, h1, h2]; omega), List.take_of_length_le (by rw [List.length_append, h1, h2]; omega), hc, hr, ← List.drop_drop]
    rw [List.take_add]
theorem blk_full {m cs : List UInt8} {q : Nat} (hl : cs.length = 17) (hc : cs.take 16 = (m.drop (16 * q)).take 16) : cs.set 16 1 = blkP m q ++ [1] := by
  have h1 : cs = cs.take 16 ++ cs.drop 16 := (List.take_append_drop 16 cs).symm
  have h2 : (cs.drop 16).length = 1 := by rw [List.length_drop]; omega
  have h3 : (cs.take 16).length = 16 := by rw [List.length_take]; omega
  obtain ⟨x, hx⟩ : ∃ x, cs.drop 16 = [x] := by
    match cs.drop 16, h2 with
    | [x], _ => exact ⟨x, rfl⟩
  rw [h1, hx, List.set_append_right _ _ (by omega), h3, hc]
  rfl
def lenOf : Value → Nat
  | .slice _ n _ => n
  | _ => 0
def InlRel (w0 : World) (BB : Nat) (m : List UInt8) (J : Nat → World → Prop) (E : Nat) (fv u : Value) (A : World) : Prop :=
  ∃ (L : Nat) (rest : List UInt8), fv = .int .i64 ((L % 16 : Nat) : Int) ∧ Rd w0 u rest ∧ L + rest.length = E ∧ rest = (m.drop L).take rest.length ∧ ItS BB m J L A
noncomputable def body_inl : Code := (((Try.f29.body.map loopsOf).getD [])[1]?).getD .skip
set_option maxRecDepth 100000 in
set_option maxHeartbeats 4000000 in
theorem inl_loop (c1 c2 c5 c7 c8 c9 c10 c11 c12 c13 c14 c15 c16 c17 c18 c19 c20 c21 c22 c23 c24 c25 c26 c27 c28 c29 c30 c31 c32 c33 c34 c35 c36 c37 c38 c39 c40 c41 c42 c43 c44 : Value) (w0 W : World) (BB l L0 E : Nat) (m rest0 : List UInt8) (u0 : Value) (J : Nat → World → Prop) (w : World) (hp : Hid (ItP w0 W BB l m J)) (hE : E ≤ m.length) (hr0 : Hid (Rd w0 u0 rest0)) (hL0 : L0 + rest0.length = E) (he0 : Hid (rest0 = (m.drop L0).take rest0.length)) (h0 : Hid (ItS BB m J L0 w)) (hm : m.length ≤ 1000000) {Q : Exit → Act → World → Prop}
    (HQ : Hid (∀ (u6 u7 u14 u15 u16 u17 u18 u19 u20 u21 u22 u23 u24 u25 u26 u27 u28 u29 u30 u31 u32 u33 : Value) (wx : World), Hid (ItS BB m J E wx) → Q (.exit 2) ⟨List.toArray ((.func (.yield l) #[] #[]) :: c1 :: c2 :: (.pointer (some ⟨BB, 0, none⟩)) :: (.int .i64 ((E % 16 : Nat) : Int)) :: c5 :: u6 :: u7 :: c8 :: c9 :: c10 :: c11 :: c12 :: c13 :: u14 :: u15 :: u16 :: u17 :: u18 :: u19 :: u20 :: u21 :: u22 :: u23 :: u24 :: u25 :: u26 :: u27 :: u28 :: u29 :: u30 :: u31 :: u32 :: u33 :: c34 :: c35 :: c36 :: c37 :: c38 :: c39 :: c40 :: c41 :: c42 :: c43 :: c44 :: []), []⟩ wx)) :
    (Code.loop body_inl).wp Try.prog Q ⟨List.toArray ((.func (.yield l) #[] #[]) :: c1 :: c2 :: (.pointer (some ⟨BB, 0, none⟩)) :: (.int .i64 ((L0 % 16 : Nat) : Int)) :: c5 :: u0 :: c7 :: c8 :: c9 :: c10 :: c11 :: c12 :: c13 :: c14 :: c15 :: c16 :: c17 :: c18 :: c19 :: c20 :: c21 :: c22 :: c23 :: c24 :: c25 :: c26 :: c27 :: c28 :: c29 :: c30 :: c31 :: c32 :: c33 :: c34 :: c35 :: c36 :: c37 :: c38 :: c39 :: c40 :: c41 :: c42 :: c43 :: c44 :: []), []⟩ w := by
  obtain ⟨i0, hi0, hz0, hz1, hz2⟩ := info_parts info_u8
  have HZ : Hid ((Try.prog.info? 5).map (·.size) = some 1) := by show _ = _; kernel_rfl
  unfold body_inl
  conv => arg 2; arg 1; whnf
  go_loopw [4, 6] (fun fv u wx => InlRel w0 BB m J E fv u wx) (fun _ u _ => lenOf u)
  case atStart => exact ⟨L0, rest0, rfl, hr0.out, hL0, he0.out, h0.out⟩
  case round =>
    obtain ⟨L, rest, rfl, hr, hL, he, hs⟩ := hrel
    obtain ⟨q, hq⟩ : ∃ q, q = L / 16 := ⟨_, rfl⟩
    obtain ⟨f, hf⟩ : ∃ f, f = L % 16 := ⟨_, rfl⟩
    have f16 : f < 16 := by omega
    have hLq : L = 16 * q + f := by omega
    obtain ⟨hj, hLm, cs, hcl, hct, hcb⟩ := hs
    rw [← hq] at hj hct
    rw [← hf] at hct
    rw [← hf]
    have hlow := hp.out.low _ _ hj
    obtain ⟨A, c, rfl, hc1, hc2, hA⟩ := hr.form
    unfold maxLen at hc2
    have rI : (rest.length : Int) ≤ 1000000 := by omega
    have fI : (f : Int) ≤ 15 := by omega
    by_cases hpos : 0 < rest.length
    · have pI : (0 : Int) < rest.length := by omega
      obtain ⟨n, hn⟩ : ∃ n, n = min rest.length (16 - f) := ⟨_, rfl⟩
      have nI : (n : Int) ≤ 16 := by omega
      have n0 : n ≤ rest.length := by omega
      have hsl : ∀ V, (Instr.sliceAt 57 (.pointer (some ⟨BB, 0, none⟩)) (some (.int .i64 (f : Int))) (some (.int .i64 16)) none).run Try.prog V = .ok (.slice (some ⟨BB, f, none⟩) (16 - f) (17 - f)) V := fun V => run_slice_arr V 57 17 5 i0 Try.underlying57 hi0 hz1 BB f 16 (f : Int) 16 rfl rfl (by omega) (by omega) (by omega)
      obtain ⟨A2, c2, hs2, hr2⟩ := hr.low (P := Try.prog) 24 5 i0 Try.underlying24 hi0 hz1 n n0
      have HRA : Hid (Rd wr (.slice A rest.length c) rest) := Lib.hid (hr.below hlow)
      have HCB := Lib.hid hcb
      have HIC := Lib.hid (it_copy (n := n) hcl hct (by rw [← hLq, he, List.take_take, Nat.min_eq_left n0]) n0 (by omega) (by omega))
      have HMN : Hid (n = min rest.length (16 - f)) := Lib.hid hn
      have HFN : Hid (f + n ≤ cs.length) := Lib.hid (by omega)
      have a1 : IntKind.i64.wrap ((f : Int) + (n : Int)) = (f : Int) + (n : Int) := IntWalk.i64_in _ (by omega)
      have HJ := Lib.hid hj
      have HE := Lib.hid he
      have HR2 := Lib.hid hr2
      have HLQ := Lib.hid hLq
      have HQ1 := Lib.hid hq
      have HF1 := Lib.hid hf
      clear hA hr hlow hcb hcl hct he hj hr2 hLq hq hf hn
      by_cases hfull : f + n < 16
      · have gI : (f : Int) + (n : Int) < 16 := by omega
        go_wp2_with (refine wpList_copy_rd rfl (.tmp 18) (.tmp 19) 24 24 rfl 5 Try.underlying24 HZ.out (some ⟨BB, f, none⟩) (16 - f) (17 - f) rfl (.slice A rest.length c) rfl rest HRA.out BB f cs 57 HCB.out n HMN.out (fun _ => rfl) HFN.out ?_; intro w2 hb2 hs2; have HB2 := Lib.hid hb2; have HS2 := Lib.hid hs2; clear hb2 hs2)
        go_quiet (fail)
        go_wp2_with (fail)
        have hn2 : n = rest.length := by have := HMN.out; omega
        have e1 : ((f : Int) + (n : Int)) = ((E % 16 : Nat) : Int) := by have := HLQ.out; omega
        rw [e1]
        have so := HS2.out
        have hbl : Below W.heap.size wr (w2.drewN nq) := below_drewN (so.below.mono hp.out.blk) nq
        have e2 : E / 16 = q := by have := HLQ.out; omega
        have e3 : E % 16 = f + n := by have := HLQ.out; omega
        refine HQ.out _ _ _ _ _ _ _ _ _ _ _ _ _ _ _ _ _ _ _ _ _ _ _ (Lib.hid ⟨?_, hE, splice cs f (rest.take n), HIC.out.1, ?_, HB2.out.drewN nq⟩)
        · rw [e2]; exact hp.out.on _ _ _ HJ.out hbl
        · rw [e2, e3]; exact HIC.out.2
      · have gI : ¬ (f : Int) + (n : Int) < 16 := by omega
        have f0 : ∀ V, Blk V BB 57 ((splice cs f (rest.take n)).map bv) → V.frozen? ⟨BB, 16, none⟩ = false ∧ ∃ u, V.cell? ⟨BB, 16, none⟩ = some u := fun V hV => ⟨hV.free _, _, by rw [hV.cell]; exact List.getElem?_eq_getElem (by rw [List.length_map, HIC.out.1]; omega)⟩
        have HF0 := Lib.hid f0
        clear f0
        go_wp2_with (refine wpList_copy_rd rfl (.tmp 18) (.tmp 19) 24 24 rfl 5 Try.underlying24 HZ.out (some ⟨BB, f, none⟩) (16 - f) (17 - f) rfl (.slice A rest.length c) rfl rest HRA.out BB f cs 57 HCB.out n HMN.out (fun _ => rfl) HFN.out ?_; intro w2 hb2 hs2; have HB2 := Lib.hid hb2; have HS2 := Lib.hid hs2; clear hb2 hs2)
        go_quiet (fail)
        obtain ⟨w3, hw3⟩ := ex_w (w2.drewN nq)
        have HB3 : Hid (Blk w3 BB 57 ((splice cs f (rest.take n)).map bv)) := Lib.hid (by rw [hw3]; exact HB2.out.drewN nq)
        have HD3 : Hid (Below W.heap.size wr w3) := Lib.hid (by rw [hw3]; exact below_drewN (HS2.out.below.mono hp.out.blk) nq)
        rw [← hw3]
        obtain ⟨f1, u1, g1⟩ := HF0.out w3 HB3.out
        clear hw3 HB2 HS2 hs2
        go_upto_region 10 with (fail)
        obtain ⟨w4, hw4⟩ := ex_w (w3.setCell ⟨BB, 16, none⟩ (.int .u8 1))
        have e16 : f + n = 16 := by have := HMN.out; omega
        have HB4 : Hid (Blk w4 BB 57 ((blkP m q ++ [1]).map bv)) := Lib.hid (by
          have h := HB3.out.set 16 (bv 1)
          have h16 := HIC.out.2
          rw [e16] at h16
          rw [← List.map_set, blk_full HIC.out.1 h16] at h
          rw [hw4]
          exact h)
        have HD4 : Hid (Below W.heap.size wr w4) := Lib.hid (by rw [hw4]; exact HD3.out.trans ((Sole.setCell w3 BB 16 _).below.mono hp.out.blk))
        have HBL : Hid ((blkP m q ++ [1]).length = 17) := Lib.hid (by
          have h1 : (blkP m q).length = 16 := by unfold blkP; rw [List.length_take, List.length_drop]; have := HLQ.out; omega
          rw [List.length_append, h1]; rfl)
        rw [← hw4]
        have HJ4 := Lib.hid (hp.out.on _ _ _ HJ.out HD4.out)
        have HQM : Hid (q < blksN m) := Lib.hid (by unfold blksN; have := HLQ.out; omega)
        clear hw4 f1 g1 HB3 HD3 HJ
        refine (wpIn_wide (n := 2)).1 ?_
        gi_wp2_with (fail)
        refine ⟨trivial, (callsIn_wide.2 (nof_any BB _ _ w4 HB4.out HBL.out)).mono ?_⟩
        rintro e w5 ⟨rfl, hb5⟩
        have HB5 := Lib.hid (HB4.out.below hb5 HB4.out.lt)
        have hj5 := hp.out.on _ _ _ HJ4.out (hb5.mono (by have := hp.out.blk; have := HB4.out.lt; omega))
        obtain ⟨fn, tmps, assign, body, hy, hR⟩ := hp.out.yield q w5 HQM.out hj5
        dsimp only [encB] at hy
        clear hb5 hj5
        gi_wp2_with (fail)
        refine hR.mono ?_
        rintro e w6 ⟨rfl, hj6, hs6, hk6⟩
        have HJ6 := Lib.hid hj6
        have HB6 : Hid (Blk w6 BB 57 ((blkP m q ++ [1]).map bv)) := Lib.hid ((hk6 BB hp.out.blk HB5.out.lt).trans HB5.out)
        clear hR hy hj6 hs6 hk6
        gi_wp2_with (fail)
        go_wp2_with (fail)
        go_roundw
        case rel =>
          have hq2 : (L + n) / 16 = q + 1 := by have := HLQ.out; omega
          have hf2 : (L + n) % 16 = 0 := by have := HLQ.out; omega
          refine ⟨L + n, rest.drop n, by rw [hf2]; rfl, ?_, by rw [List.length_drop]; omega, ?_, ?_, by omega, blkP m q ++ [1], HBL.out, ?_, HB6.out⟩
          · exact HR2.out
          · have h := congrArg (List.drop n) HE.out
            rw [List.drop_take, List.drop_drop] at h
            rw [List.length_drop]
            exact h
          · rw [hq2]; exact HJ6.out
          · rw [hf2]; rfl
        case measure => simp [lenOf]; omega
    · have h0 : rest = [] := List.eq_nil_of_length_eq_zero (by omega)
      subst h0
      have hLE : L = E := by simpa using hL
      subst hLE
      have HS : Hid (ItS BB m J L wr) := Lib.hid ⟨by rw [← hq]; exact hj, hLm, cs, hcl, by rw [← hf, ← hq]; exact hct, hcb⟩
      have HF1 := Lib.hid hf
      clear hA hr hlow hcb hcl hct he hj hLq hq hf
      go_wp2_with (fail)
      rw [HF1.out]
      exact HQ.out _ _ _ _ _ _ _ _ _ _ _ _ _ _ _ _ _ _ _ _ _ _ _ HS
end Go.Proofs.Ytlcpplnajaldgaa
