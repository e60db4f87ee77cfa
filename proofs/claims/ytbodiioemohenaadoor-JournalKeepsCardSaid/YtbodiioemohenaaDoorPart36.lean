/- Part 36 of the words that the laws share: Of. No condition of its own: each theorem says its own. -/
import Derived.Test.YtbodiioemohenaaDoorPart35
import Derived.WalkMore

/- The contract of sha.Of: the published fingerprint of all parts' bytes. Conditions: at most 1000000 bytes in all; the table of the rounds as it is laid. -/
namespace Go.Proofs.YtbodiioemohenaaDoor
open Go.RowKit

theorem firstWords_any (w : World) : Calls Tryd.prog 81 #[] w fun e w' => e = .returned (stV St.first) ∧ Below w.heap.size w w' := by
  go_enter Tryd.func81, Tryd.ntmps81
  go_wp2
  refine bodyPost_ret (v := stV St.first) (by simp [results, Tryd.results81, go_sem]; rfl) rfl ⟨rfl, by go_grown⟩
theorem St.first_ok' : St.first.ok := St.first_ok
/-- The first so many rows, one behind the other. -/
def joinN (xss : List (List UInt8)) (i : Nat) : List UInt8 := (xss.take i).flatten
theorem joinN_succ {xss : List (List UInt8)} {i : Nat} (h : i < xss.length) : joinN xss (i + 1) = joinN xss i ++ xss[i] := by
  unfold joinN
  rw [List.take_succ_eq_append_getElem h, List.flatten_append]
  simp
theorem joinN_le (xss : List (List UInt8)) (i : Nat) : (joinN xss i).length ≤ xss.flatten.length := by
  have h : xss.flatten = joinN xss i ++ (xss.drop i).flatten := by rw [joinN, ← List.flatten_append, List.take_append_drop]
  rw [h, List.length_append]
  omega
def PartsRel (w0 : World) (S : Nat) (xss : List (List UInt8)) (f n i : Value) (W : World) : Prop :=
  ∃ (j : Nat) (s : St) (cs : List UInt8) (k : Nat), i = .int .i64 (j : Int) ∧ j ≤ xss.length ∧ f = .int .i64 (k : Int) ∧ n = .int .u64 ((joinN xss j).length : Int) ∧ Taken w0 S (joinN xss j) s cs k W
noncomputable def body_parts : Code := (((Tryd.f62.body.map loopsOf).getD [])[0]?).getD .skip
set_option maxRecDepth 100000 in
set_option maxHeartbeats 1000000 in
theorem parts_loop (c0 c1 c2 c7 c8 c9 c10 c14 c15 c16 c17 c18 c19 c20 c21 c22 c23 c24 c25 c26 c27 c28 c29 c30 c31 c32 c33 c34 c35 c36 c37 c38 c39 c40 c41 c42 : Value) (w0 w : World) (S : Nat) (hS : Hid (S = w0.heap.size)) (hk : Hid (Salts w0)) (v : Value) (xss : List (List UInt8)) (hv : Hid (Rs w0 v xss)) (hlen : (xss.flatten.length : Int) ≤ 1000000) (hxl : (xss.length : Int) ≤ 1000000) (h0 : Hid (PartsRel w0 S xss (.int .i64 0) (.int .u64 0) (.int .i64 0) w)) {Q : Exit → Act → World → Prop}
    (HQ : Hid (∀ (u8 u9 u13 u14 u15 u16 u17 u18 u19 u20 u21 u22 u23 u24 u25 u26 u27 u28 u29 u30 u31 u32 u33 u34 u35 u36 : Value) (s : St) (cs : List UInt8) (k : Nat) (wx : World), Hid (Taken w0 S xss.flatten s cs k wx) → Q (.exit 0) ⟨List.toArray (c0 :: c1 :: c2 :: (.pointer (some ⟨S, 0, none⟩)) :: (.pointer (some ⟨S + 1, 0, none⟩)) :: (.int .i64 (k : Int)) :: (.int .u64 (xss.flatten.length : Int)) :: c7 :: u8 :: u9 :: c10 :: v :: (.int .i64 (xss.length : Int)) :: u13 :: u14 :: u15 :: u16 :: u17 :: u18 :: u19 :: u20 :: u21 :: u22 :: u23 :: u24 :: u25 :: u26 :: u27 :: u28 :: u29 :: u30 :: u31 :: u32 :: u33 :: u34 :: u35 :: u36 :: c37 :: c38 :: c39 :: c40 :: c41 :: c42 :: []), []⟩ wx)) :
    (Code.loop body_parts).wp Tryd.prog Q ⟨List.toArray (c0 :: c1 :: c2 :: (.pointer (some ⟨S, 0, none⟩)) :: (.pointer (some ⟨S + 1, 0, none⟩)) :: (.int .i64 0) :: (.int .u64 0) :: c7 :: c8 :: c9 :: c10 :: v :: (.int .i64 (xss.length : Int)) :: (.int .i64 0) :: c14 :: c15 :: c16 :: c17 :: c18 :: c19 :: c20 :: c21 :: c22 :: c23 :: c24 :: c25 :: c26 :: c27 :: c28 :: c29 :: c30 :: c31 :: c32 :: c33 :: c34 :: c35 :: c36 :: c37 :: c38 :: c39 :: c40 :: c41 :: c42 :: []), []⟩ w := by
  obtain ⟨g, c, rfl, hg, hel⟩ := hv.out
  have HEL := Lib.hid hel
  have HG := Lib.hid hg
  clear hel hg
  unfold body_parts
  conv => arg 2; arg 1; whnf
  go_loopw [5, 6, 13] (fun f n i wx => PartsRel w0 S xss f n i wx) (fun _ _ i _ => xss.length - (intOf i).toNat)
  case atStart => exact h0.out
  case round =>
    obtain ⟨j, s, cs, k, rfl, hj, rfl, rfl, ht⟩ := hrel
    by_cases hlt : j < xss.length
    · have hI : (j : Int) < xss.length := by omega
      obtain ⟨u, hu, hr⟩ := HEL.out j hlt
      have hsc := joinN_succ hlt
      have hle := joinN_le xss (j + 1)
      obtain ⟨xs, hxs⟩ : ∃ xs, xs = xss[j] := ⟨_, rfl⟩
      rw [← hxs] at hr hsc
      obtain ⟨n, hn⟩ : ∃ n, n = (joinN xss j).length := ⟨_, rfl⟩
      have hsum : n + xs.length = (joinN xss (j + 1)).length := by rw [hsc, List.length_append, hn]
      obtain ⟨A, c8, rfl, hc1, hc2, _⟩ := hr.form
      have hcell : w.heap.size ≤ w.heap.size := Nat.le_refl _
      have hcu := (ht.below.cell (p := ⟨g, j, none⟩) (by rw [hS.out]; exact HG.out)).trans hu
      have HR := Lib.hid hr
      have HT := Lib.hid ht
      have HSC := Lib.hid hsc
      have HSUM := Lib.hid hsum
      have HN := Lib.hid hn
      have nI : (n : Int) + (xs.length : Int) ≤ 1000000 := by omega
      rw [← hn]
      have hT2 : Hid (TakeRel w0 S (joinN xss (j + 1)) (.int .i64 (k : Int)) (.slice A xs.length c8) wr) := Lib.hid ⟨joinN xss j, xs, s, cs, k, A, c8, hsc, rfl, rfl, hr, ht⟩
      clear hu hr ht hsc hsum hn hle hcell hxs hc1 hc2
      go_wp2_with (fail)
      refine take_loop _ _ _ _ _ _ _ _ _ _ _ _ _ _ _ _ _ _ _ _ _ _ _ _ _ _ _ _ _ _ _ _ _ _ _ _ _ _ _ w0 wr S hS hk (joinN xss (j + 1)) _ _ hT2 (Lib.hid ?_)
      intro u8 u9 u22 u23 u24 u25 u26 u27 u28 u29 u30 u31 u32 u33 u34 u35 s2 cs2 k2 w2 ht2
      go_wp2_with (fail)
      go_roundw
      case rel => exact ⟨j + 1, s2, cs2, k2, by go_num, hlt, rfl, by rw [← HSUM.out]; go_num, ht2.out⟩
      case measure => simp [intOf]; omega
    · obtain rfl : j = xss.length := by omega
      have e : joinN xss xss.length = xss.flatten := by unfold joinN; rw [List.take_length]
      rw [e] at ht ⊢
      have HT := Lib.hid ht
      clear ht
      go_wp2_with (fail)
      exact HQ.out _ _ _ _ _ _ _ _ _ _ _ _ _ _ _ _ _ _ _ _ _ _ _ _ _ _ s cs k _ HT

set_option maxRecDepth 100000 in
set_option maxHeartbeats 1000000 in
theorem of_any (v : Value) (xss : List (List UInt8)) (w : World) (hv : Rs w v xss) (hlen : xss.flatten.length ≤ 1000000) (hxl : xss.length ≤ 1000000) (hk : Salts w) :
    Calls Tryd.prog 62 #[v] w fun e w' => e = .returned (arrV (shaB xss.flatten)) ∧ Below w.heap.size w w' := by
  obtain ⟨g, c, rfl, hg, hel⟩ := hv
  have HV0 : Hid (Rs w (.slice (some ⟨g, 0, none⟩) xss.length c) xss) := Lib.hid ⟨g, c, rfl, hg, hel⟩
  have HK := Lib.hid hk
  have HI : Hid ((Tryd.prog.info? 104).map (·.size) = some 32) := by show _ = _; kernel_rfl
  have HI8 : Hid ((Tryd.prog.info? 127).map (·.size) = some 8) := by show _ = _; kernel_rfl
  have HI64 : Hid ((Tryd.prog.info? 129).map (·.size) = some 64) := by show _ = _; kernel_rfl
  have lI : (xss.flatten.length : Int) ≤ 1000000 := by omega
  have HLI := Lib.hid lI
  have xI : (xss.length : Int) ≤ 1000000 := by omega
  clear hg hel hk hlen hxl lI
  go_enter Tryd.func62, Tryd.ntmps62
  go_wp2_with (fail)
  go_step3
  go_wp2_with (fail)
  refine (firstWords_any _).mono ?_
  rintro e w1 ⟨rfl, hb1⟩
  have D1 : Hid (Below (w.heap.size + 1) (w.alloc (.cells (List.replicate 32 (Value.int .u8 0)).toArray 104)) w1) := Lib.hid (hb1.mono (by simp))
  have S1 : w.heap.size + 1 ≤ w1.heap.size := by have := D1.out.size; simp at this; omega
  have D01 : Hid (Below w.heap.size w w1) := Lib.hid (((Below.refl _ _).alloc (Nat.le_refl _) _).trans (D1.out.mono (by omega)))
  have HV1 := Lib.hid (HV0.out.below D01.out)
  have HK1 := Lib.hid (HK.out.below D01.out)
  have HR1 := Lib.hid ((Blk.made w 104 (List.replicate 32 (Value.int .u8 0))).below D1.out (by omega))
  have HM1 := Lib.hid (Blk.made w1 127 (List.replicate 8 (Value.int .u32 0)))
  clear hb1
  go_wp2_with (refine wpList_store_blk rfl 127 _ _ rfl w1.heap.size 127 _ HM1.out (St.first.list.map wv) rfl rfl (list_len8 _) HI8.out (wv_one _) ?_; intro w2 hb2 hs2)
  have HT : Hid (Taken w1 w1.heap.size [] St.first (List.replicate 64 0) 0 (w2.alloc (.cells (List.replicate 64 (Value.int .u8 0)).toArray 129))) := by
    have h := Blk.made w2 129 (List.replicate 64 (Value.int .u8 0))
    have e2 : w2.heap.size = w1.heap.size + 1 := by rw [hs2.size]; simp
    rw [e2] at h
    refine Lib.hid ⟨Flow.start, St.first_ok, hb2.alloc _, ?_, (((Below.refl _ _).alloc (Nat.le_refl _) _).trans hs2.below).alloc (by omega) _⟩
    rw [List.map_replicate]
    exact h
  have E2 : Hid (w2.heap.size = w1.heap.size + 1) := by show _ = _; rw [hs2.size]; simp
  clear hb2 hs2
  rw [E2.out]
  have hP : Hid (PartsRel w1 w1.heap.size xss (.int .i64 0) (.int .u64 0) (.int .i64 0) (w2.alloc (.cells (List.replicate 64 (Value.int .u8 0)).toArray 129))) := Lib.hid ⟨0, _, _, 0, rfl, by omega, rfl, rfl, HT.out⟩
  clear HT
  go_step3
  go_wp2_with (fail)
  refine parts_loop _ _ _ _ _ _ _ _ _ _ _ _ _ _ _ _ _ _ _ _ _ _ _ _ _ _ _ _ _ _ _ _ _ _ _ _ w1 _ w1.heap.size (Lib.hid rfl) HK1 _ xss HV1 HLI.out xI hP (Lib.hid ?_)
  intro u8 u9 u13 u14 u15 u16 u17 u18 u19 u20 u21 u22 u23 u24 u25 u26 u27 u28 u29 u30 u31 u32 u33 u34 u35 u36 s cs k w3 ht3
  have hok := ht3.out.ok
  have hfin := ht3.out.flow.finish
  obtain ⟨N, hN⟩ : ∃ N, N = xss.flatten.length := ⟨_, rfl⟩
  rw [← hN] at hfin ⊢
  have HF := Lib.hid hfin
  have HCL := Lib.hid ht3.out.flow.len
  have HKL := Lib.hid ht3.out.flow.lt
  have HW3 := Lib.hid ht3.out.words
  have HB3 := Lib.hid ht3.out.block
  have D3 := Lib.hid (D01.out.trans (ht3.out.below.mono D01.out.size))
  have HK3 := Lib.hid (HK.out.below D3.out)
  have HR3 := Lib.hid (HR1.out.below (ht3.out.below) (by omega))
  have HLB : Hid ((cs.map bv).length = 64) := by show (cs.map bv).length = 64; rw [List.length_map, HCL.out]
  have HOK := Lib.hid hok
  have nN : N ≤ 1000000 := by have := HLI.out; omega
  have HNN := Lib.hid nN
  clear hok nN ht3 hN hfin
  go_wp2_with (first
    | (refine wpList_load_blk rfl 127 _ rfl w1.heap.size rfl 127 (s.list.map wv) _ HW3.out Tryd.underlying127 rfl HI8.out ?_)
    | (refine wpList_load_blk rfl 129 _ rfl (w1.heap.size + 1) rfl 129 (cs.map bv) _ HB3.out Tryd.underlying129 rfl (by rw [HLB.out]; exact HI64.out) ?_))
  refine (end_any s cs k N _ HOK.out HCL.out HKL.out HNN.out HK3.out).mono ?_
  rintro e w4 ⟨rfl, hb4⟩
  have HR4 := Lib.hid (HR3.out.below hb4 HR3.out.lt)
  have D4 := Lib.hid (D3.out.trans (hb4.mono D3.out.size))
  have hok4 : (endS s cs k N).ok := by unfold endS; split <;> exact goOn_ok _ _
  have HO4 := Lib.hid hok4
  clear hb4 hok4
  go_wp2_with (fail)
  refine (sumOut_any (endS s cs k N) _ HO4.out).mono ?_
  rintro e w5 ⟨rfl, hb5⟩
  have HR5 := Lib.hid (HR4.out.below hb5 HR4.out.lt)
  have D5 := Lib.hid (D4.out.trans (hb5.mono D4.out.size))
  have HLS : Hid (((shaB xss.flatten).map bv).length = 32) := by show _ = _; rw [← HF.out, List.length_map, St.bytes_length]
  rw [HF.out]
  clear hb5
  go_wp2_with (refine wpList_store_blk rfl 104 _ _ rfl w.heap.size 104 _ HR5.out ((shaB xss.flatten).map bv) rfl rfl (by rw [HLS.out]; rfl) (by rw [HLS.out]; exact HI.out) (bv_one _) ?_; intro w6 hb6 hs6)
  try rw [Exit.noGoto_ret]
  refine bodyPost_ret ?_ rfl ⟨rfl, D5.out.trans hs6.below⟩
  exact results_blk (ty := 104) Tryd.results62 _ w6 w.heap.size 104 ((shaB xss.flatten).map bv) _ rfl hb6 Tryd.underlying104 rfl (by rw [HLS.out]; exact HI.out)
end Go.Proofs.YtbodiioemohenaaDoor
