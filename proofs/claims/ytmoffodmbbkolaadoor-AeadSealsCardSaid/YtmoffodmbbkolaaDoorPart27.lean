/- Part 27 of the words that the laws share: LPlus, LTimA. No condition of its own: each theorem says its own. -/
import Derived.Test.YtmoffodmbbkolaaDoorPart20
import Derived.Great.Ranges

/- The contract of poly's plus: the sum, limb by limb. Conditions: five limbs each, none above 2^60. -/
namespace Go.Proofs.YtmoffodmbbkolaaDoor
open Go.RowKit

/-- The value of a number of five limbs. -/
def numV (ns : List Nat) : Value := .agg (ns.map wq).toArray
theorem num_info : (Tryd.prog.info? 80).map (·.size) = some 5 := by kernel_rfl
def PlsRel (w : World) (B : Nat) (ns ms : List Nat) (T : TypeId) (v : Value) (W : World) : Prop := ∃ i : Nat, v = .int .i64 (i : Int) ∧ i ≤ 5 ∧ Blk W B T (((addL ns ms).take i ++ ns.drop i).map wq) ∧ Sole w W B
noncomputable def body_pls : Code := (((Tryd.f42.body.map loopsOf).getD [])[0]?).getD .skip
set_option maxRecDepth 100000 in
set_option maxHeartbeats 2000000 in
theorem pls_loop (c0 c1 c4 c5 c7 c8 c9 c10 c11 c12 c13 c14 c15 c16 c17 c18 : Value) (B C : Nat) (T : TypeId) (ns ms : List Nat) (w : World) (hne : C ≠ B) (hn : Hid (ns.length = 5)) (hm : Hid (ms.length = 5)) (hnb : Hid (∀ q, q < 5 → ns.getD q 0 ≤ 1152921504606846976)) (hmb : Hid (∀ q, q < 5 → ms.getD q 0 ≤ 1152921504606846976)) (h0 : Hid (Blk w B T (ns.map wq))) (h1 : Hid (Blk w C T (ms.map wq))) {Q : Exit → Act → World → Prop}
    (HQ : Hid (∀ (u5 u6 u7 u8 u9 u10 u11 u12 u13 u14 u15 u16 u17 : Value) (wx : World), Hid (Blk wx B T ((addL ns ms).map wq)) → Hid (Sole w wx B) → Q (.exit 0) ⟨List.toArray (c0 :: c1 :: (.pointer (some ⟨B, 0, none⟩)) :: (.pointer (some ⟨C, 0, none⟩)) :: c4 :: u5 :: u6 :: u7 :: u8 :: u9 :: u10 :: u11 :: u12 :: u13 :: u14 :: u15 :: u16 :: u17 :: c18 :: []), []⟩ wx)) :
    (Code.loop body_pls).wp Tryd.prog Q ⟨List.toArray (c0 :: c1 :: (.pointer (some ⟨B, 0, none⟩)) :: (.pointer (some ⟨C, 0, none⟩)) :: c4 :: c5 :: (.int .i64 0) :: c7 :: c8 :: c9 :: c10 :: c11 :: c12 :: c13 :: c14 :: c15 :: c16 :: c17 :: c18 :: []), []⟩ w := by
  unfold body_pls
  conv => arg 2; arg 1; whnf
  go_loopw [6] (fun v wx => PlsRel w B ns ms T v wx) (fun v _ => 5 - (intOf v).toNat)
  case atStart => exact ⟨0, rfl, by omega, by simpa using h0.out, Sole.refl _ _⟩
  case round =>
    obtain ⟨i, rfl, hi, hblk, so⟩ := hrel
    have HB := Lib.hid hblk
    have HL := Lib.hid so
    by_cases hlt : i < 5
    · have hI : (i : Int) < 5 := by omega
      obtain ⟨e, he⟩ : ∃ e, e = ns.getD i 0 := ⟨_, rfl⟩
      obtain ⟨x, hx⟩ : ∃ x, x = ms.getD i 0 := ⟨_, rfl⟩
      have el : e ≤ 1152921504606846976 := by rw [he]; exact hnb.out i hlt
      have xl : x ≤ 1152921504606846976 := by rw [hx]; exact hmb.out i hlt
      have hlen : ((addL ns ms).take i ++ ns.drop i).length = 5 := by rw [List.length_append, List.length_take, List.length_drop, addL_length, hn.out]; omega
      have ce := rq_cell hblk (i := i) (by rw [hlen]; exact hlt)
      rw [addL_at hlt hn.out, ← he] at ce
      have cx := rq_cell (so.blk h1.out hne) (i := i) (by rw [hm.out]; exact hlt)
      rw [← hx] at cx
      have f0 : wr.frozen? ⟨B, i, none⟩ = false := hblk.free _
      have HS := Lib.hid (addL_set hlt hlen rfl hn.out)
      rw [← he, ← hx] at HS
      have a1 : IntKind.u64.wrap ((e : Int) + (x : Int)) = (e : Int) + (x : Int) := IntWalk.u64_in _ (by omega)
      clear he hx hblk so hi el xl hlen
      go_wp2_with (fail)
      go_still_tail 8, (by kernel_rfl)
      change wpList _ _ _ _ _ wr.drew
      go_wp2_with (fail)
      clear a1
      go_roundw
      case rel =>
        have h := (HB.out.set i (wq (e + x))).drew
        rw [← List.map_set, HS.out] at h
        have e7 : Value.int .u64 ((e : Int) + (x : Int)) = wq (e + x) := congrArg (Value.int .u64) (by omega)
        rw [e7]
        exact ⟨i + 1, by go_num, by omega, h, sole_drew (HL.out.trans (Sole.setCell wr B i _))⟩
      case measure => simp [intOf]; omega
    · obtain rfl : i = 5 := by omega
      have HB2 : Hid (Blk wr B T ((addL ns ms).map wq)) := Lib.hid (by
        have e : (addL ns ms).take 5 ++ ns.drop 5 = addL ns ms := by
          rw [List.take_of_length_le (by rw [addL_length]; omega), List.drop_of_length_le (by rw [hn.out]; omega), List.append_nil]
        rw [← e]
        exact hblk)
      clear hblk so
      go_wp2_with (fail)
      exact HQ.out _ _ _ _ _ _ _ _ _ _ _ _ _ _ HB2 HL
set_option maxRecDepth 100000 in
set_option maxHeartbeats 2000000 in
theorem plus_any (ns ms : List Nat) (w : World) (hn : ns.length = 5) (hm : ms.length = 5) (hnb : ∀ q, q < 5 → ns.getD q 0 ≤ 1152921504606846976) (hmb : ∀ q, q < 5 → ms.getD q 0 ≤ 1152921504606846976) :
    Calls Tryd.prog 42 #[.agg (ns.map wq).toArray, .agg (ms.map wq).toArray] w fun e w' => e = .returned (.agg ((addL ns ms).map wq).toArray) ∧ Below w.heap.size w w' := by
  have HI : Hid ((Tryd.prog.info? 80).map (·.size) = some 5) := Lib.hid num_info
  obtain ⟨W1, hW1⟩ : ∃ W : World, W = ((w.alloc (.cells (ns.map wq).toArray 80)).alloc (.cells (ms.map wq).toArray 80)).alloc (.cells (List.replicate 5 (Value.int .u64 0)).toArray 80) := ⟨_, rfl⟩
  have D1 : Hid (Below w.heap.size w W1) := Lib.hid (by rw [hW1]; exact (((Below.refl _ _).alloc (Nat.le_refl _) _).alloc (by simp) _).alloc (by simp; omega) _)
  have A1 : Hid (Blk W1 w.heap.size 80 (ns.map wq)) := Lib.hid (by rw [hW1]; exact ((Blk.made w _ _).alloc _).alloc _)
  have M1 : Hid (Blk W1 (w.heap.size + 1) 80 (ms.map wq)) := Lib.hid (by
    have h := (Blk.made (w.alloc (.cells (ns.map wq).toArray 80)) 80 (ms.map wq)).alloc (.cells (List.replicate 5 (Value.int .u64 0)).toArray 80)
    rw [World.size_alloc] at h
    rw [hW1]
    exact h)
  have R1 : Hid (Blk W1 (w.heap.size + 1 + 1) 80 (List.replicate 5 (Value.int .u64 0))) := Lib.hid (by
    have h := Blk.made ((w.alloc (.cells (ns.map wq).toArray 80)).alloc (.cells (ms.map wq).toArray 80)) 80 (List.replicate 5 (Value.int .u64 0))
    rw [World.size_alloc, World.size_alloc] at h
    rw [hW1]
    exact h)
  have HN := Lib.hid hn
  have HM := Lib.hid hm
  have HNB := Lib.hid hnb
  have HMB := Lib.hid hmb
  have HLR : Hid (((addL ns ms).map wq).length = 5) := by show _ = _; rw [List.length_map, addL_length]
  clear hn hm hnb hmb
  subst hW1
  go_enter Tryd.func42, Tryd.ntmps42
  go_wp2_with (first
               | refine Go.Great.wpList_boxTo rfl _ _ rfl _ rfl w.heap.size rfl ((ns.map wq).toArray) rfl ?_
               | refine Go.Great.wpList_boxTo rfl _ _ rfl _ rfl (w.heap.size + 1) (by simp) ((ms.map wq).toArray) rfl ?_)
  refine pls_loop _ _ _ _ _ _ _ _ _ _ _ _ _ _ _ _ w.heap.size (w.heap.size + 1) 80 ns ms _ (by omega) HN HM HNB HMB A1 M1 (Lib.hid ?_)
  intro u5 u6 u7 u8 u9 u10 u11 u12 u13 u14 u15 u16 u17 w5 hb5 hs5
  have R5 := Lib.hid (hs5.out.blk R1.out (by omega))
  have D5 : Hid (Below w.heap.size w w5) := Lib.hid (D1.out.trans hs5.out.below)
  clear hs5
  go_wp2_with (first
    | (refine wpList_load_blk rfl 80 (.tmp 2) rfl w.heap.size rfl 80 ((addL ns ms).map wq) _ hb5.out Tryd.underlying80 rfl (by rw [HLR.out]; exact HI.out) ?_)
    | (refine wpList_store_blk rfl 80 (.tmp 4) (.tmp 18) rfl (w.heap.size + 1 + 1) 80 _ R5.out ((addL ns ms).map wq) rfl rfl (by rw [HLR.out]; rfl) (by rw [HLR.out]; exact HI.out) (wq_one _) ?_; intro w9 hb9 hs9))
  refine bodyPost_ret (v := .agg ((addL ns ms).map wq).toArray) ?_ rfl ⟨rfl, D5.out.trans (hs9.below.mono (by omega))⟩
  exact results_blk (ty := 80) Tryd.results42 _ w9 (w.heap.size + 1 + 1) 80 ((addL ns ms).map wq) _ rfl hb9 Tryd.underlying80 rfl (by rw [HLR.out]; exact HI.out)
end Go.Proofs.YtmoffodmbbkolaaDoor

/- poly's times: its loops. Conditions: five limbs each, of the one below 2^28, of the other below 2^26. -/
namespace Go.Proofs.YtmoffodmbbkolaaDoor
open Go.RowKit

def TmiRel (w : World) (B i : Nat) (ns rs : List Nat) (T : TypeId) (v : Value) (W : World) : Prop := ∃ (k : Nat) (out : List Nat), v = .int .i64 (k : Int) ∧ k ≤ 5 ∧ MulP ns rs out i k ∧ Blk W B T (out.map wq) ∧ Sole w W B
noncomputable def body_tmi : Code := (((Tryd.f43.body.map loopsOf).getD [])[1]?).getD .skip
set_option maxRecDepth 100000 in
set_option maxHeartbeats 4000000 in
theorem tmi_loop (c0 c1 c4 c7 c8 c9 c10 c12 c13 c14 c15 c16 c17 c18 c19 c20 c21 c22 c23 c24 c25 c26 c27 c28 c29 c30 c31 c32 c33 c34 c35 c36 c37 c38 c39 c40 c41 c42 c43 c44 c45 c46 c47 c48 c49 c50 c51 : Value) (N R B i : Nat) (T : TypeId) (ns rs out0 : List Nat) (w : World) (hi : i < 5) (hnl : Hid (ns.length = 5)) (hrl : Hid (rs.length = 5)) (hnb : Hid (∀ q, q < 5 → ns.getD q 0 ≤ 268435455)) (hrb : Hid (∀ q, q < 5 → rs.getD q 0 ≤ 67108863)) (hp : Hid (MulP ns rs out0 i 0)) (hne1 : N ≠ B) (hne2 : R ≠ B)
    (hN : Hid (Blk w N T (ns.map wq))) (hR : Hid (Blk w R T (rs.map wq))) (h0 : Hid (Blk w B T (out0.map wq))) {Q : Exit → Act → World → Prop}
    (HQ : Hid (∀ (u7 u11 u12 u13 u14 u15 u16 u17 u18 u19 u20 u21 u22 u23 u24 u25 u26 u27 u28 u29 u30 u31 u32 u33 u34 u35 u36 u37 u38 u39 u40 u41 u42 u43 u44 u45 u46 u47 u48 : Value) (out : List Nat) (wx : World), Hid (MulP ns rs out i 5) → Hid (Blk wx B T (out.map wq)) → Hid (Sole w wx B) → Q (.exit 2) ⟨List.toArray (c0 :: c1 :: (.pointer (some ⟨N, 0, none⟩)) :: (.pointer (some ⟨R, 0, none⟩)) :: c4 :: (.pointer (some ⟨B, 0, none⟩)) :: (.int .i64 (i : Int)) :: u7 :: c8 :: c9 :: c10 :: u11 :: u12 :: u13 :: u14 :: u15 :: u16 :: u17 :: u18 :: u19 :: u20 :: u21 :: u22 :: u23 :: u24 :: u25 :: u26 :: u27 :: u28 :: u29 :: u30 :: u31 :: u32 :: u33 :: u34 :: u35 :: u36 :: u37 :: u38 :: u39 :: u40 :: u41 :: u42 :: u43 :: u44 :: u45 :: u46 :: u47 :: u48 :: c49 :: c50 :: c51 :: []), []⟩ wx)) :
    (Code.loop body_tmi).wp Tryd.prog Q ⟨List.toArray (c0 :: c1 :: (.pointer (some ⟨N, 0, none⟩)) :: (.pointer (some ⟨R, 0, none⟩)) :: c4 :: (.pointer (some ⟨B, 0, none⟩)) :: (.int .i64 (i : Int)) :: c7 :: c8 :: c9 :: c10 :: (.int .i64 0) :: c12 :: c13 :: c14 :: c15 :: c16 :: c17 :: c18 :: c19 :: c20 :: c21 :: c22 :: c23 :: c24 :: c25 :: c26 :: c27 :: c28 :: c29 :: c30 :: c31 :: c32 :: c33 :: c34 :: c35 :: c36 :: c37 :: c38 :: c39 :: c40 :: c41 :: c42 :: c43 :: c44 :: c45 :: c46 :: c47 :: c48 :: c49 :: c50 :: c51 :: []), []⟩ w := by
  have iI : (i : Int) < 5 := by omega
  unfold body_tmi
  conv => arg 2; arg 1; whnf
  go_loopw [11] (fun v wx => TmiRel w B i ns rs T v wx) (fun v _ => 5 - (intOf v).toNat)
  case atStart => exact ⟨0, out0, rfl, by omega, hp.out, h0.out, Sole.refl _ _⟩
  case round =>
    obtain ⟨k, out, rfl, hk, hpp, hblk, so⟩ := hrel
    have HP := Lib.hid hpp
    by_cases hlt : k < 5
    · have kI : (k : Int) < 5 := by omega
      obtain ⟨x, hx⟩ : ∃ x, x = ns.getD i 0 := ⟨_, rfl⟩
      obtain ⟨y, hy⟩ : ∃ y, y = rs.getD k 0 := ⟨_, rfl⟩
      have xl : x ≤ 268435455 := by rw [hx]; exact hnb.out i hi
      have yl : y ≤ 67108863 := by rw [hy]; exact hrb.out k hlt
      have cx := rq_cell (so.blk hN.out hne1) (i := i) (by rw [hnl.out]; exact hi)
      have cy := rq_cell (so.blk hR.out hne2) (i := k) (by rw [hrl.out]; exact hlt)
      rw [← hx] at cx
      rw [← hy] at cy
      obtain ⟨p, hpz⟩ : ∃ p, p = x * y := ⟨_, rfl⟩
      have pl : p ≤ 18014398509481984 := by
        have h6 : (268435455 * 67108863 : Nat) ≤ 18014398509481984 := by decide
        rw [hpz]
        exact Nat.le_trans (Nat.mul_le_mul xl yl) h6
      have a1 : (x : Int) * (y : Int) = (p : Int) := by rw [hpz]; simp
      have HB := Lib.hid hblk
      have HL := Lib.hid so
      by_cases h5 : i + k < 5
      · obtain ⟨j, hj⟩ : ∃ j, j = i + k := ⟨_, rfl⟩
        have j5 : j < 5 := by omega
        obtain ⟨e, he⟩ : ∃ e, e = out.getD j 0 := ⟨_, rfl⟩
        have el : e ≤ 1152921504606846976 := by
          have h4 := hpp.2.2 j j5
          rw [← he] at h4
          have h7 : i * mlC ≤ 5 * mlC := Nat.mul_le_mul_right _ (by omega)
          have h6 : 5 * mlC + mlC ≤ 1152921504606846976 := by decide
          split at h4 <;> omega
        have ce := rq_cell hblk (i := j) (by rw [hpp.1]; exact j5)
        rw [← he] at ce
        have f0 : wr.frozen? ⟨B, j, none⟩ = false := hblk.free _
        have HN := Lib.hid (mul_step hpp hi hlt hrl.out hx hy xl yl (j := j) (z := p) (by rw [if_pos h5]; exact hj) (by rw [if_pos h5]; exact hpz))
        rw [← he] at HN
        have jI : (j : Int) < 5 := by omega
        have a0 : (i : Int) + (k : Int) = (j : Int) := by clear a1; omega
        have a00 : IntKind.i64.wrap (j : Int) = (j : Int) := IntWalk.i64_in _ (by clear a0 a1; omega)
        have a2 : IntKind.u64.wrap (p : Int) = (p : Int) := IntWalk.u64_in _ (by clear a0 a00 a1; omega)
        have a3 : IntKind.u64.wrap ((e : Int) + (p : Int)) = (e : Int) + (p : Int) := IntWalk.u64_in _ (by clear a0 a00 a1 a2; omega)
        clear hx hy hpz he hj hpp hblk so hk xl yl el pl j5 h5
        go_wp2_with (fail)
        go_still_tail 14, (by kernel_rfl)
        change wpList _ _ _ _ _ wr.drew
        go_wp2_with (fail)
        clear a0 a00 a1 a2 a3
        go_roundw
        case rel =>
          have h := (HB.out.set j (wq (e + p))).drew
          rw [← List.map_set] at h
          have e7 : Value.int .u64 ((e : Int) + (p : Int)) = wq (e + p) := congrArg (Value.int .u64) (by omega)
          rw [e7]
          exact ⟨k + 1, _, by go_num, by omega, HN.out, h, sole_drew (HL.out.trans (Sole.setCell wr B j _))⟩
        case measure => simp [intOf]; omega
      · obtain ⟨s, hs⟩ : ∃ s, s = i + k := ⟨_, rfl⟩
        obtain ⟨j, hj⟩ : ∃ j, j = s - 5 := ⟨_, rfl⟩
        have s5 : 5 ≤ s := by omega
        have j5 : j < 5 := by omega
        obtain ⟨e, he⟩ : ∃ e, e = out.getD j 0 := ⟨_, rfl⟩
        have el : e ≤ 1152921504606846976 := by
          have h4 := hpp.2.2 j j5
          rw [← he] at h4
          have h7 : i * mlC ≤ 5 * mlC := Nat.mul_le_mul_right _ (by omega)
          have h6 : 5 * mlC + mlC ≤ 1152921504606846976 := by decide
          split at h4 <;> omega
        have ce := rq_cell hblk (i := j) (by rw [hpp.1]; exact j5)
        rw [← he] at ce
        have f0 : wr.frozen? ⟨B, j, none⟩ = false := hblk.free _
        have HN := Lib.hid (mul_step hpp hi hlt hrl.out hx hy xl yl (j := j) (z := p * 5) (by rw [if_neg h5, ← hs]; exact hj) (by rw [if_neg h5, hpz]))
        rw [← he] at HN
        have jI : (j : Int) < 5 := by omega
        have a0 : (i : Int) + (k : Int) = (s : Int) := by clear a1; omega
        have sI : ¬ (s : Int) < 5 := by clear a1 a0; omega
        have sl : (s : Int) ≤ 8 := by clear a1 a0; omega
        have b0 : (s : Int) - 5 = (j : Int) := by clear a1 a0; omega
        have a00 : IntKind.i64.wrap (s : Int) = (s : Int) := IntWalk.i64_in _ (by clear a0 a1 b0; omega)
        have b00 : IntKind.i64.wrap (j : Int) = (j : Int) := IntWalk.i64_in _ (by clear a0 a1 b0 a00; omega)
        have a2 : IntKind.u64.wrap (p : Int) = (p : Int) := IntWalk.u64_in _ (by clear a0 a00 a1 b0 b00; omega)
        have a4 : IntKind.u64.wrap ((p : Int) * 5) = (p : Int) * 5 := IntWalk.u64_in _ (by clear a0 a00 a1 a2 b0 b00; omega)
        have a3 : IntKind.u64.wrap ((e : Int) + (p : Int) * 5) = (e : Int) + (p : Int) * 5 := IntWalk.u64_in _ (by clear a0 a00 a1 a2 a4 b0 b00; omega)
        clear hx hy hpz he hj hs hpp hblk so hk xl yl el pl j5 h5 s5
        go_wp2_with (fail)
        go_still_tail 16, (by kernel_rfl)
        change wpList _ _ _ _ _ wr.drew
        go_wp2_with (fail)
        clear a0 a00 a1 a2 a3 a4 b0 b00
        go_roundw
        case rel =>
          have h := (HB.out.set j (wq (e + p * 5))).drew
          rw [← List.map_set] at h
          have e7 : Value.int .u64 ((e : Int) + (p : Int) * 5) = wq (e + p * 5) := congrArg (Value.int .u64) (by omega)
          rw [e7]
          exact ⟨k + 1, _, by go_num, by omega, HN.out, h, sole_drew (HL.out.trans (Sole.setCell wr B j _))⟩
        case measure => simp [intOf]; omega
    · obtain rfl : k = 5 := by omega
      have HB := Lib.hid hblk
      have HL := Lib.hid so
      clear hblk so hpp
      go_wp2_with (fail)
      exact HQ.out _ _ _ _ _ _ _ _ _ _ _ _ _ _ _ _ _ _ _ _ _ _ _ _ _ _ _ _ _ _ _ _ _ _ _ _ _ _ _ out _ HP HB HL
def TmoRel (w : World) (B : Nat) (ns rs : List Nat) (T : TypeId) (v : Value) (W : World) : Prop := ∃ (i : Nat) (out : List Nat), v = .int .i64 (i : Int) ∧ i ≤ 5 ∧ MulP ns rs out i 0 ∧ Blk W B T (out.map wq) ∧ Sole w W B
noncomputable def body_tmo : Code := (((Tryd.f43.body.map loopsOf).getD [])[0]?).getD .skip
set_option maxRecDepth 100000 in
set_option maxHeartbeats 2000000 in
theorem tmo_loop (c0 c1 c4 c6 c7 c9 c10 c11 c12 c13 c14 c15 c16 c17 c18 c19 c20 c21 c22 c23 c24 c25 c26 c27 c28 c29 c30 c31 c32 c33 c34 c35 c36 c37 c38 c39 c40 c41 c42 c43 c44 c45 c46 c47 c48 c49 c50 c51 : Value) (N R B : Nat) (T : TypeId) (ns rs : List Nat) (w : World) (hnl : Hid (ns.length = 5)) (hrl : Hid (rs.length = 5)) (hnb : Hid (∀ q, q < 5 → ns.getD q 0 ≤ 268435455)) (hrb : Hid (∀ q, q < 5 → rs.getD q 0 ≤ 67108863)) (hne1 : N ≠ B) (hne2 : R ≠ B)
    (hN : Hid (Blk w N T (ns.map wq))) (hR : Hid (Blk w R T (rs.map wq))) (h0 : Hid (Blk w B T ((List.replicate 5 0).map wq))) {Q : Exit → Act → World → Prop}
    (HQ : Hid (∀ (u6 u7 u8 u9 u10 u11 u12 u13 u14 u15 u16 u17 u18 u19 u20 u21 u22 u23 u24 u25 u26 u27 u28 u29 u30 u31 u32 u33 u34 u35 u36 u37 u38 u39 u40 u41 u42 u43 u44 u45 u46 u47 u48 u49 : Value) (out : List Nat) (wx : World), Hid (MulP ns rs out 5 0) → Hid (Blk wx B T (out.map wq)) → Hid (Sole w wx B) → Q (.exit 0) ⟨List.toArray (c0 :: c1 :: (.pointer (some ⟨N, 0, none⟩)) :: (.pointer (some ⟨R, 0, none⟩)) :: c4 :: (.pointer (some ⟨B, 0, none⟩)) :: u6 :: u7 :: u8 :: u9 :: u10 :: u11 :: u12 :: u13 :: u14 :: u15 :: u16 :: u17 :: u18 :: u19 :: u20 :: u21 :: u22 :: u23 :: u24 :: u25 :: u26 :: u27 :: u28 :: u29 :: u30 :: u31 :: u32 :: u33 :: u34 :: u35 :: u36 :: u37 :: u38 :: u39 :: u40 :: u41 :: u42 :: u43 :: u44 :: u45 :: u46 :: u47 :: u48 :: u49 :: c50 :: c51 :: []), []⟩ wx)) :
    (Code.loop body_tmo).wp Tryd.prog Q ⟨List.toArray (c0 :: c1 :: (.pointer (some ⟨N, 0, none⟩)) :: (.pointer (some ⟨R, 0, none⟩)) :: c4 :: (.pointer (some ⟨B, 0, none⟩)) :: c6 :: c7 :: (.int .i64 0) :: c9 :: c10 :: c11 :: c12 :: c13 :: c14 :: c15 :: c16 :: c17 :: c18 :: c19 :: c20 :: c21 :: c22 :: c23 :: c24 :: c25 :: c26 :: c27 :: c28 :: c29 :: c30 :: c31 :: c32 :: c33 :: c34 :: c35 :: c36 :: c37 :: c38 :: c39 :: c40 :: c41 :: c42 :: c43 :: c44 :: c45 :: c46 :: c47 :: c48 :: c49 :: c50 :: c51 :: []), []⟩ w := by
  unfold body_tmo
  conv => arg 2; arg 1; whnf
  go_loopw [8] (fun v wx => TmoRel w B ns rs T v wx) (fun v _ => 5 - (intOf v).toNat)
  case atStart => exact ⟨0, List.replicate 5 0, rfl, by omega, mul_zero ns rs, h0.out, Sole.refl _ _⟩
  case round =>
    obtain ⟨i, out, rfl, hi, hpp, hblk, so⟩ := hrel
    have HP := Lib.hid hpp
    have HB := Lib.hid hblk
    have HL := Lib.hid so
    clear hblk so hpp
    by_cases hlt : i < 5
    · have hI : (i : Int) < 5 := by omega
      have NC := Lib.hid (HL.out.blk hN.out hne1)
      have RC := Lib.hid (HL.out.blk hR.out hne2)
      go_wp2_with (fail)
      refine tmi_loop _ _ _ _ _ _ _ _ _ _ _ _ _ _ _ _ _ _ _ _ _ _ _ _ _ _ _ _ _ _ _ _ _ _ _ _ _ _ _ _ _ _ _ _ _ _ _ N R B i T ns rs out wr hlt hnl hrl hnb hrb HP hne1 hne2 NC RC HB (Lib.hid ?_)
      intro u7 u11 u12 u13 u14 u15 u16 u17 u18 u19 u20 u21 u22 u23 u24 u25 u26 u27 u28 u29 u30 u31 u32 u33 u34 u35 u36 u37 u38 u39 u40 u41 u42 u43 u44 u45 u46 u47 u48 out2 w2 hp2 hb2 hs2
      go_wp2_with (fail)
      go_roundw
      case rel => exact ⟨i + 1, out2, by go_num, by omega, mul_next hp2.out hlt hnl.out hrl.out, hb2.out, HL.out.trans hs2.out⟩
      case measure => simp [intOf]; omega
    · obtain rfl : i = 5 := by omega
      go_wp2_with (fail)
      exact HQ.out _ _ _ _ _ _ _ _ _ _ _ _ _ _ _ _ _ _ _ _ _ _ _ _ _ _ _ _ _ _ _ _ _ _ _ _ _ _ _ _ _ _ _ _ out _ HP HB HL
end Go.Proofs.YtmoffodmbbkolaaDoor
