/- The contract of poly's plus: the sum, limb by limb. Conditions: five limbs each, none above 2^60. -/
import Derived.Test.YtlcpplnajaldgaaLHand
import Derived.Great.Ranges
namespace Go.Proofs.Ytlcpplnajaldgaa
open Go.RowKit

/-- The value of a number of five limbs. -/
def numV (ns : List Nat) : Value := .agg (ns.map wq).toArray
theorem num_info : (Try.prog.info? 46).map (·.size) = some 5 := by kernel_rfl
def PlsRel (w : World) (B : Nat) (ns ms : List Nat) (T : TypeId) (v : Value) (W : World) : Prop := ∃ i : Nat, v = .int .i64 (i : Int) ∧ i ≤ 5 ∧ Blk W B T (((addL ns ms).take i ++ ns.drop i).map wq) ∧ Sole w W B
noncomputable def body_pls : Code := (((Try.f23.body.map loopsOf).getD [])[0]?).getD .skip
set_option maxRecDepth 100000 in
set_option maxHeartbeats 2000000 in
theorem pls_loop (c0 c1 c4 c5 c7 c8 c9 c10 c11 c12 c13 c14 c15 c16 c17 c18 : Value) (B C : Nat) (T : TypeId) (ns ms : List Nat) (w : World) (hne : C ≠ B) (hn : Hid (ns.length = 5)) (hm : Hid (ms.length = 5)) (hnb : Hid (∀ q, q < 5 → ns.getD q 0 ≤ 1152921504606846976)) (hmb : Hid (∀ q, q < 5 → ms.getD q 0 ≤ 1152921504606846976)) (h0 : Hid (Blk w B T (ns.map wq))) (h1 : Hid (Blk w C T (ms.map wq))) {Q : Exit → Act → World → Prop}
    (HQ : Hid (∀ (u5 u6 u7 u8 u9 u10 u11 u12 u13 u14 u15 u16 u17 : Value) (wx : World), Hid (Blk wx B T ((addL ns ms).map wq)) → Hid (Sole w wx B) → Q (.exit 0) ⟨List.toArray (c0 :: c1 :: (.pointer (some ⟨B, 0, none⟩)) :: (.pointer (some ⟨C, 0, none⟩)) :: c4 :: u5 :: u6 :: u7 :: u8 :: u9 :: u10 :: u11 :: u12 :: u13 :: u14 :: u15 :: u16 :: u17 :: c18 :: []), []⟩ wx)) :
    (Code.loop body_pls).wp Try.prog Q ⟨List.toArray (c0 :: c1 :: (.pointer (some ⟨B, 0, none⟩)) :: (.pointer (some ⟨C, 0, none⟩)) :: c4 :: c5 :: (.int .i64 0) :: c7 :: c8 :: c9 :: c10 :: c11 :: c12 :: c13 :: c14 :: c15 :: c16 :: c17 :: c18 :: []), []⟩ w := by
  unfold body_pls
  conv => arg 2; arg 1; whnf
  go_loopw [6] (fun v wx => PlsRel w B ns ms T v wx) (fun v _ => 5 - (intOf v).toNat)
  case atStart => exact ⟨0, rfl, by omega, by simpa using h0.out, Sole.refl _ _⟩
  case round =>
    obtain ⟨i, rfl, hi, hblk, so⟩ := hrel
    have HB := Lib.hid hblk
    have HL := Lib.hid so
    by_cases hlt : i < 5
    · have hI : (i : Int) < 5 := by omega
      obtain ⟨e, he⟩ : ∃ e, e = ns.getD i 0 := ⟨_, rfl⟩
      obtain ⟨x, hx⟩ : ∃ x, x = ms.getD i 0 := ⟨_, rfl⟩
      have el : e ≤ 1152921504606846976 := by rw [he]; exact hnb.out i hlt
      have xl : x ≤ 1152921504606846976 := by rw [hx]; exact hmb.out i hlt
      have hlen : ((addL ns ms).take i ++ ns.drop i).length = 5 := by rw [List.length_append, List.length_take, List.length_drop, addL_length, hn.out]; omega
      have ce := rq_cell hblk (i := i) (by rw [hlen]; exact hlt)
      rw [addL_at hlt hn.out, ← he] at ce
      have cx := rq_cell (so.blk h1.out hne) (i := i) (by rw [hm.out]; exact hlt)
      rw [← hx] at cx
      have f0 : wr.frozen? ⟨B, i, none⟩ = false := hblk.free _
      have HS := Lib.hid (addL_set hlt hlen rfl hn.out)
      rw [← he, ← hx] at HS
      have a1 : IntKind.u64.wrap ((e : Int) + (x : Int)) = (e : Int) + (x : Int) := IntWalk.u64_in _ (by omega)
      clear he hx hblk so hi el xl hlen
      go_wp2_with (fail)
      go_still_tail 8, (by kernel_rfl)
      change wpList _ _ _ _ _ wr.drew
      go_wp2_with (fail)
      clear a1
      go_roundw
      case rel =>
        have h := (HB.out.set i (wq (e + x))).drew
        rw [← List.map_set, HS.out] at h
        have e7 : Value.int .u64 ((e : Int) + (x : Int)) = wq (e + x) := congrArg (Value.int .u64) (by omega)
        rw [e7]
        exact ⟨i + 1, by go_num, by omega, h, sole_drew (HL.out.trans (Sole.setCell wr B i _))⟩
      case measure => simp [intOf]; omega
    · obtain rfl : i = 5 := by omega
      have HB2 : Hid (Blk wr B T ((addL ns ms).map wq)) := Lib.hid (by
        have e : (addL ns ms).take 5 ++ ns.drop 5 = addL ns ms := by
          rw [List.take_of_length_le (by rw [addL_length]; omega), List.drop_of_length_le (by rw [hn.out]; omega), List.append_nil]
        rw [← e]
        exact hblk)
      clear hblk so
      go_wp2_with (fail)
      exact HQ.out _ _ _ _ _ _ _ _ _ _ _ _ _ _ HB2 HL
set_option maxRecDepth 100000 in
set_option maxHeartbeats 2000000 in
theorem plus_any (ns ms : List Nat) (w : World) (hn : ns.length = 5) (hm : ms.length = 5) (hnb : ∀ q, q < 5 → ns.getD q 0 ≤ 1152921504606846976) (hmb : ∀ q, q < 5 → ms.getD q 0 ≤ 1152921504606846976) :
    Calls Try.prog 23 #[.agg (ns.map wq).toArray, .agg (ms.map wq).toArray] w fun e w' => e = .returned (.agg ((addL ns ms).map wq).toArray) ∧ Below w.heap.size w w' := by
  have HI : Hid ((Try.prog.info? 46).map (·.size) = some 5) := Lib.hid num_info
  obtain ⟨W1, hW1⟩ : ∃ W : World, W = ((w.alloc (.cells (ns.map wq).toArray 46)).alloc (.cells (ms.map wq).toArray 46)).alloc (.cells (List.replicate 5 (Value.int .u64 0)).toArray 46) := ⟨_, rfl⟩
  have D1 : Hid (Below w.heap.size w W1) := Lib.hid (by rw [hW1]; exact (((Below.refl _ _).alloc (Nat.le_refl _) _).alloc (by simp) _).alloc (by simp; omega) _)
  have A1 : Hid (Blk W1 w.heap.size 46 (ns.map wq)) := Lib.hid (by rw [hW1]; exact ((Blk.made w _ _).alloc _).alloc _)
  have M1 : Hid (Blk W1 (w.heap.size + 1) 46 (ms.map wq)) := Lib.hid (by
    have h := (Blk.made (w.alloc (.cells (ns.map wq).toArray 46)) 46 (ms.map wq)).alloc (.cells (List.replicate 5 (Value.int .u64 0)).toArray 46)
    rw [World.size_alloc] at h
    rw [hW1]
    exact h)
  have R1 : Hid (Blk W1 (w.heap.size + 1 + 1) 46 (List.replicate 5 (Value.int .u64 0))) := Lib.hid (by
    have h := Blk.made ((w.alloc (.cells (ns.map wq).toArray 46)).alloc (.cells (ms.map wq).toArray 46)) 46 (List.replicate 5 (Value.int .u64 0))
    rw [World.size_alloc, World.size_alloc] at h
    rw [hW1]
    exact h)
  have HN := Lib.hid hn
  have HM := Lib.hid hm
  have HNB := Lib.hid hnb
  have HMB := Lib.hid hmb
  have HLR : Hid (((addL ns ms).map wq).length = 5) := by show _ = _; rw [List.length_map, addL_length]
  clear hn hm hnb hmb
  subst hW1
  go_enter Try.func23, Try.ntmps23
  go_wp2_with (first
               | refine Go.Great.wpList_boxTo rfl _ _ rfl _ rfl w.heap.size rfl ((ns.map wq).toArray) rfl ?_
               | refine Go.Great.wpList_boxTo rfl _ _ rfl _ rfl (w.heap.size + 1) (by simp) ((ms.map wq).toArray) rfl ?_)
  refine pls_loop _ _ _ _ _ _ _ _ _ _ _ _ _ _ _ _ w.heap.size (w.heap.size + 1) 46 ns ms _ (by omega) HN HM HNB HMB A1 M1 (Lib.hid ?_)
  intro u5 u6 u7 u8 u9 u10 u11 u12 u13 u14 u15 u16 u17 w5 hb5 hs5
  have R5 := Lib.hid (hs5.out.blk R1.out (by omega))
  have D5 : Hid (Below w.heap.size w w5) := Lib.hid (D1.out.trans hs5.out.below)
  clear hs5
  go_wp2_with (first
    | (refine wpList_load_blk rfl 46 (.tmp 2) rfl w.heap.size rfl 46 ((addL ns ms).map wq) _ hb5.out Try.underlying46 rfl (by rw [HLR.out]; exact HI.out) ?_)
    | (refine wpList_store_blk rfl 46 (.tmp 4) (.tmp 18) rfl (w.heap.size + 1 + 1) 46 _ R5.out ((addL ns ms).map wq) rfl rfl (by rw [HLR.out]; rfl) (by rw [HLR.out]; exact HI.out) (wq_one _) ?_; intro w9 hb9 hs9))
  refine bodyPost_ret (v := .agg ((addL ns ms).map wq).toArray) ?_ rfl ⟨rfl, D5.out.trans (hs9.below.mono (by omega))⟩
  exact results_blk (ty := 46) Try.results23 _ w9 (w.heap.size + 1 + 1) 46 ((addL ns ms).map wq) _ rfl hb9 Try.underlying46 rfl (by rw [HLR.out]; exact HI.out)
end Go.Proofs.Ytlcpplnajaldgaa
