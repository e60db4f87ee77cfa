/- The contract of poly's times: the product modulo 2^130 - 5. Conditions: five limbs each, of the one below 2^28, of the other below 2^26. -/
import Derived.Test.YtlcpplnajaldgaaLTimA
import Derived.Test.YtlcpplnajaldgaaLRed
namespace Go.Proofs.Ytlcpplnajaldgaa
open Go.RowKit

set_option maxRecDepth 100000 in
set_option maxHeartbeats 2000000 in
theorem times_any (ns rs : List Nat) (w : World) (hn : ns.length = 5) (hr : rs.length = 5) (hnb : ∀ q, q < 5 → ns.getD q 0 ≤ 268435455) (hrb : ∀ q, q < 5 → rs.getD q 0 ≤ 67108863) :
    Calls Try.prog 24 #[.agg (ns.map wq).toArray, .agg (rs.map wq).toArray] w (RedPost w (lv ns * lv rs)) := by
  have HI : Hid ((Try.prog.info? 46).map (·.size) = some 5) := Lib.hid num_info
  obtain ⟨W1, hW1⟩ : ∃ W : World, W = (((w.alloc (.cells (ns.map wq).toArray 46)).alloc (.cells (rs.map wq).toArray 46)).alloc (.cells (List.replicate 5 (Value.int .u64 0)).toArray 46)).alloc (.cells (List.replicate 5 (Value.int .u64 0)).toArray 46) := ⟨_, rfl⟩
  have S1 : W1.heap.size = w.heap.size + 1 + 1 + 1 + 1 := by rw [hW1]; simp
  have D1 : Hid (Below w.heap.size w W1) := Lib.hid (by rw [hW1]; exact ((((Below.refl _ _).alloc (Nat.le_refl _) _).alloc (by simp) _).alloc (by simp; omega) _).alloc (by simp; omega) _)
  have A1 : Hid (Blk W1 w.heap.size 46 (ns.map wq)) := Lib.hid (by rw [hW1]; exact (((Blk.made w _ _).alloc _).alloc _).alloc _)
  have M1 : Hid (Blk W1 (w.heap.size + 1) 46 (rs.map wq)) := Lib.hid (by
    have h := ((Blk.made (w.alloc (.cells (ns.map wq).toArray 46)) 46 (rs.map wq)).alloc (.cells (List.replicate 5 (Value.int .u64 0)).toArray 46)).alloc (.cells (List.replicate 5 (Value.int .u64 0)).toArray 46)
    rw [World.size_alloc] at h
    rw [hW1]
    exact h)
  have R1 : Hid (Blk W1 (w.heap.size + 1 + 1) 46 (List.replicate 5 (Value.int .u64 0))) := Lib.hid (by
    have h := (Blk.made ((w.alloc (.cells (ns.map wq).toArray 46)).alloc (.cells (rs.map wq).toArray 46)) 46 (List.replicate 5 (Value.int .u64 0))).alloc (.cells (List.replicate 5 (Value.int .u64 0)).toArray 46)
    rw [World.size_alloc, World.size_alloc] at h
    rw [hW1]
    exact h)
  have P1 : Hid (Blk W1 (w.heap.size + 1 + 1 + 1) 46 ((List.replicate 5 0).map wq)) := Lib.hid (by
    have h := Blk.made (((w.alloc (.cells (ns.map wq).toArray 46)).alloc (.cells (rs.map wq).toArray 46)).alloc (.cells (List.replicate 5 (Value.int .u64 0)).toArray 46)) 46 (List.replicate 5 (Value.int .u64 0))
    rw [World.size_alloc, World.size_alloc, World.size_alloc] at h
    rw [hW1, List.map_replicate]
    exact h)
  have HN := Lib.hid hn
  have HR := Lib.hid hr
  have HNB := Lib.hid hnb
  have HRB := Lib.hid hrb
  have HS1 := Lib.hid S1
  clear hn hr hnb hrb S1
  subst hW1
  go_enter Try.func24, Try.ntmps24
  go_wp2_with (first
               | refine Go.Great.wpList_boxTo rfl _ _ rfl _ rfl w.heap.size rfl ((ns.map wq).toArray) rfl ?_
               | refine Go.Great.wpList_boxTo rfl _ _ rfl _ rfl (w.heap.size + 1) (by simp) ((rs.map wq).toArray) rfl ?_)
  refine tmo_loop _ _ _ _ _ _ _ _ _ _ _ _ _ _ _ _ _ _ _ _ _ _ _ _ _ _ _ _ _ _ _ _ _ _ _ _ _ _ _ _ _ _ _ _ _ _ _ _ w.heap.size (w.heap.size + 1) (w.heap.size + 1 + 1 + 1) 46 ns rs _ HN HR HNB HRB (by omega) (by omega) A1 M1 P1 (Lib.hid ?_)
  intro u6 u7 u8 u9 u10 u11 u12 u13 u14 u15 u16 u17 u18 u19 u20 u21 u22 u23 u24 u25 u26 u27 u28 u29 u30 u31 u32 u33 u34 u35 u36 u37 u38 u39 u40 u41 u42 u43 u44 u45 u46 u47 u48 u49 out w5 hp5 hb5 hs5
  have R5 := Lib.hid (hs5.out.blk R1.out (by omega))
  have D5 : Hid (Below w.heap.size w w5) := Lib.hid (D1.out.trans (hs5.out.below.mono (by omega)))
  have S5 : Hid (w.heap.size + 1 + 1 + 1 + 1 ≤ w5.heap.size) := Lib.hid (by rw [hs5.out.size]; exact Nat.le_of_eq HS1.out.symm)
  have HM := Lib.hid (mul_all hp5.out HN.out)
  have HLP : Hid ((out.map wq).length = 5) := by show _ = _; rw [List.length_map]; exact HM.out.1
  clear hs5 A1 M1 P1 R1 D1 HS1 hp5
  go_wp2_with (first
    | (refine wpList_load_blk rfl 46 (.tmp 5) rfl (w.heap.size + 1 + 1 + 1) rfl 46 (out.map wq) _ hb5.out Try.underlying46 rfl (by rw [HLP.out]; exact HI.out) ?_))
  refine (reduced_any out (lv out) _ (han_zero HM.out.1 HM.out.2.2)).mono ?_
  rintro e w6 ⟨R, rfl, hR, hv, hb6⟩
  have R6 := Lib.hid (R5.out.below hb6 R5.out.lt)
  have D6 : Hid (Below w.heap.size w w6) := Lib.hid (D5.out.trans (hb6.mono D5.out.size))
  have HRR : Hid (RedP R ∧ lv R % p130 = lv ns * lv rs % p130) := Lib.hid ⟨hR, by rw [hv]; exact HM.out.2.1⟩
  have HLR : Hid ((R.map wq).length = 5) := by show _ = _; rw [List.length_map]; exact HRR.out.1.1
  clear hR hv hb6
  go_wp2_with (first
    | (refine wpList_store_blk rfl 46 (.tmp 4) (.tmp 51) rfl (w.heap.size + 1 + 1) 46 _ R6.out (R.map wq) rfl rfl (by rw [HLR.out]; rfl) (by rw [HLR.out]; exact HI.out) (wq_one _) ?_; intro w9 hb9 hs9))
  refine bodyPost_ret (v := .agg (R.map wq).toArray) ?_ rfl ⟨R, rfl, HRR.out.1, HRR.out.2, D6.out.trans (hs9.below.mono (by omega))⟩
  exact results_blk (ty := 46) Try.results24 _ w9 (w.heap.size + 1 + 1) 46 (R.map wq) _ rfl hb9 Try.underlying46 rfl (by rw [HLR.out]; exact HI.out)
end Go.Proofs.Ytlcpplnajaldgaa
