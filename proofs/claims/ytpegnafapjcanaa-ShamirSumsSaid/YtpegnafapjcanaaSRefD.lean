/- The contract of the eighth reference's Combine. Conditions: at least one share, at most 1000. -/
import Derived.Test.YtpegnafapjcanaaSRefC
import Derived.Test.YtpegnafapjcanaaRfl
namespace Go.Proofs.Ytpegnafapjcanaa
open Go.RowKit

theorem info_a32 : (Try.prog.info? 22).map (fun i => (i.zero, i.size, i.bytes)) = some (some (.agg (zeros32.map bv).toArray), 32, 32) := by kernel_rfl
theorem sole_drewN {w W : World} {B : Nat} (h : Sole w W B) (n : Nat) : Sole w (W.drewN n) B := ⟨below_drewN h.below n, h.size, h.other⟩
theorem mixB_zero (L : List (List UInt8)) : mixB L 0 0 = zeros32 := by
  unfold mixB zeros32
  rw [List.eq_replicate_iff]
  refine ⟨by simp, fun b hb => ?_⟩
  obtain ⟨k, _, rfl⟩ := List.mem_map.1 hb
  rw [if_neg (by omega)]
  rfl
def PiRel (L : List (List UInt8)) (B : Nat) (w : World) (v : Value) (W : World) : Prop := ∃ i : Nat, v = .int .i64 (i : Int) ∧ i ≤ L.length ∧ Blk W B 22 ((mixB L i 0).map bv) ∧ Sole w W B
noncomputable def body_pi : Code := (((Try.f15.body.map loopsOf).getD [])[0]?).getD .skip
set_option maxRecDepth 100000 in
set_option maxHeartbeats 2000000 in
theorem pi_loop (c1 c2 c5 c6 c7 c8 c9 c10 c11 c12 c13 c14 c15 c16 c17 c18 c19 c20 c21 c22 c23 c24 c25 c26 c27 c28 c29 c30 c31 c32 c33 c34 c35 c36 c37 c38 c39 c40 c41 c42 c43 c44 c45 c46 c47 c48 c49 c50 c51 c52 c53 c54 c55 c56 c57 c58 c59 c60 c61 c62 c63 c64 c65 c66 c67 c68 : Value) (L : List (List UInt8)) (b off c B : Nat) (w : World) (hn : L.length ≤ 1000) (hbB : b ≠ B) (hc : Hid (∀ i j, i < L.length → j < 33 → w.cell? ⟨b, off + i * 33 + j, none⟩ = some (bv ((L.getD i []).getD j 0)))) (h0 : Hid (Blk w B 22 ((mixB L 0 0).map bv))) {Q : Exit → Act → World → Prop}
    (HQ : Hid (∀ (u4 u5 u6 u7 u8 u9 u10 u11 u12 u13 u14 u15 u16 u17 u18 u19 u20 u21 u22 u23 u24 u25 u26 u27 u28 u29 u30 u31 u32 u33 u34 u35 u36 u37 u38 u39 u40 u41 u42 u43 u44 u45 u46 u47 u48 u49 u50 u51 u52 u53 u54 u55 u56 u57 u58 u59 u60 u61 u62 u63 u64 u65 u66 u67 : Value) (wx : World), Hid (Blk wx B 22 ((combB L).map bv)) → Hid (Sole w wx B) → Q (.exit 0) ⟨List.toArray ((.slice (some ⟨b, off, none⟩) L.length c) :: c1 :: c2 :: (.pointer (some ⟨B, 0, none⟩)) :: u4 :: u5 :: u6 :: u7 :: u8 :: u9 :: u10 :: u11 :: u12 :: u13 :: u14 :: u15 :: u16 :: u17 :: u18 :: u19 :: u20 :: u21 :: u22 :: u23 :: u24 :: u25 :: u26 :: u27 :: u28 :: u29 :: u30 :: u31 :: u32 :: u33 :: u34 :: u35 :: u36 :: u37 :: u38 :: u39 :: u40 :: u41 :: u42 :: u43 :: u44 :: u45 :: u46 :: u47 :: u48 :: u49 :: u50 :: u51 :: u52 :: u53 :: u54 :: u55 :: u56 :: u57 :: u58 :: u59 :: u60 :: u61 :: u62 :: u63 :: u64 :: u65 :: u66 :: u67 :: c68 :: []), []⟩ wx)) :
    (Code.loop body_pi).wp Try.prog Q ⟨List.toArray ((.slice (some ⟨b, off, none⟩) L.length c) :: c1 :: c2 :: (.pointer (some ⟨B, 0, none⟩)) :: (.int .i64 0) :: c5 :: c6 :: c7 :: c8 :: c9 :: c10 :: c11 :: c12 :: c13 :: c14 :: c15 :: c16 :: c17 :: c18 :: c19 :: c20 :: c21 :: c22 :: c23 :: c24 :: c25 :: c26 :: c27 :: c28 :: c29 :: c30 :: c31 :: c32 :: c33 :: c34 :: c35 :: c36 :: c37 :: c38 :: c39 :: c40 :: c41 :: c42 :: c43 :: c44 :: c45 :: c46 :: c47 :: c48 :: c49 :: c50 :: c51 :: c52 :: c53 :: c54 :: c55 :: c56 :: c57 :: c58 :: c59 :: c60 :: c61 :: c62 :: c63 :: c64 :: c65 :: c66 :: c67 :: c68 :: []), []⟩ w := by
  have nI : (L.length : Int) ≤ 1000 := by omega
  have HN := Lib.hid hn
  have HNE := Lib.hid hbB
  clear hn hbB
  unfold body_pi
  conv => arg 2; arg 1; whnf
  go_loopw [4] (fun v wx => PiRel L B w v wx) (fun v _ => L.length - (intOf v).toNat)
  case atStart => exact ⟨0, rfl, by omega, h0.out, Sole.refl _ _⟩
  case round =>
    obtain ⟨i, rfl, hi, hblk, so⟩ := hrel
    by_cases hlt : i < L.length
    · have hI : (i : Int) < L.length := by omega
      have HI := Lib.hid hlt
      have HB := Lib.hid hblk
      have HL := Lib.hid so
      have HC : Hid (∀ m i j, i < L.length → j < 33 → (wr.drewN m).cell? ⟨b, off + i * 33 + j, none⟩ = some (bv ((L.getD i []).getD j 0))) := Lib.hid fun m i j hi hj => by
        rw [← hc.out i j hi hj]
        exact (sole_drewN so m).cell (p := ⟨b, off + i * 33 + j, none⟩) HNE.out
      have G1 := Lib.hid (fun W => refGi (downN (XL L) i L.length) W)
      have G2 := Lib.hid (fun W => refGm (prodE (XL L) i L.length) (gi (downN (XL L) i L.length)) W)
      clear hblk so hlt hi
      go_wp2_with (fail)
      refine pk_loop _ _ _ _ _ _ _ _ _ _ _ _ _ _ _ _ _ _ _ _ _ _ _ _ _ _ _ _ _ _ _ _ _ _ _ _ _ _ _ _ _ _ _ _ _ _ _ _ _ _ _ _ _ _ _ _ _ _ _ _ _ _ _ _ (XL L) L.length i b off c wr HI.out HN.out (Lib.hid fun m k hk => HC.out m k 0 hk (by decide)) (Lib.hid ?_)
      intro u7 u16 u17 u18 u19 u20 u21 u22 u23 u24 u25 u26 u27 u28 u29 u30 u31 u32 u33 u34 u35 u36 u37 u38 u39 u40 u41 u42 u43 u44 m
      go_wp2_with (fail)
      refine (G1.out _).mono ?_
      rintro e w1 ⟨rfl, rfl⟩
      go_wp2_with (fail)
      refine (G2.out _).mono ?_
      rintro e w1 ⟨rfl, rfl⟩
      go_wp2_with (fail)
      refine pj_loop _ _ _ _ _ _ _ _ _ _ _ _ _ _ _ _ _ _ _ _ _ _ _ _ _ _ _ _ _ _ _ _ _ _ _ _ _ _ _ _ _ _ _ _ _ _ _ _ _ _ _ _ _ _ _ _ _ _ _ _ _ _ _ _ L i b off c B (wr.drewN m) HI.out HN.out HNE.out (Lib.hid fun k hk => ?hcell) (Lib.hid (HB.out.drewN m)) (Lib.hid ?hrest)
      case hcell =>
        have h := HC.out m i (1 + k) HI.out (by omega)
        rw [h, Nat.add_comm 1 k]
        rfl
      case hrest =>
        intro u9 u49 u50 u51 u52 u53 u54 u55 u56 u57 u58 u59 u60 u61 u62 u63 u64 u65 u66 u67 wx HX SX
        go_wp2_with (fail)
        have hi := HI.out
        refine ⟨⟨i + 1, by go_num, by omega, HX.out, (sole_drewN HL.out m).trans SX.out⟩, by simp [intOf]; omega⟩
    · obtain rfl : i = L.length := by omega
      have HB := Lib.hid hblk
      have HL := Lib.hid so
      rw [mixB_end] at HB
      clear hblk so
      go_wp2_with (fail)
      exact HQ.out _ _ _ _ _ _ _ _ _ _ _ _ _ _ _ _ _ _ _ _ _ _ _ _ _ _ _ _ _ _ _ _ _ _ _ _ _ _ _ _ _ _ _ _ _ _ _ _ _ _ _ _ _ _ _ _ _ _ _ _ _ _ _ _ _ HB HL
set_option maxRecDepth 100000 in
set_option maxHeartbeats 2000000 in
theorem refComb_any (v : Value) (L : List (List UInt8)) (w : World) (hr : Rf 33 w v L) (hn : L.length ≤ 1000) (h0 : 0 < L.length) :
    Calls Try.prog 15 #[v] w fun e w' => e = .returned (arrV (combB L)) ∧ Below w.heap.size w w' := by
  obtain ⟨A, c, rfl, hc1, hc2, hA⟩ := hr.form
  obtain ⟨b, off, rfl, hb1, hb3⟩ := hA h0
  have HI : Hid ((Try.prog.info? 22).map (·.size) = some 32) := Lib.hid (size_of info_a32)
  have HZ : Hid ((Try.prog.info? 22).bind (·.zero) = some (.agg (zeros32.map bv).toArray)) := Lib.hid (zero_of info_a32)
  have HZL : Hid ((zeros32.map bv).length = 32) := Lib.hid (by simp [zeros32])
  have HCL : Hid (((combB L).map bv).length = 32) := Lib.hid (by rw [List.length_map, combB_length])
  obtain ⟨W1, hW1⟩ : ∃ W : World, W = w.alloc (.cells (zeros32.map bv).toArray 22) := ⟨_, rfl⟩
  obtain ⟨W2, hW2⟩ : ∃ W : World, W = W1.alloc (.cells (zeros32.map bv).toArray 22) := ⟨_, rfl⟩
  have S1 : Hid (W1.heap.size = w.heap.size + 1) := Lib.hid (by rw [hW1]; simp)
  have R2 : Hid (Blk W2 w.heap.size 22 (zeros32.map bv)) := Lib.hid (by rw [hW2, hW1]; exact (Blk.made w _ _).alloc _)
  have O2 : Hid (Blk W2 (w.heap.size + 1) 22 ((mixB L 0 0).map bv)) := Lib.hid (by
    have h := Blk.made W1 22 (zeros32.map bv)
    rw [S1.out] at h
    rw [hW2, mixB_zero]
    exact h)
  have D2 : Hid (Below w.heap.size w W2) := Lib.hid (by
    rw [hW2, hW1]
    exact ((Below.refl _ _).alloc (Nat.le_refl _) _).alloc (by simp) _)
  have C2 : Hid (∀ i j, i < L.length → j < 33 → W2.cell? ⟨b, off + i * 33 + j, none⟩ = some (bv ((L.getD i []).getD j 0))) := Lib.hid fun i j hi hj => by
    rw [← hb3 i j hi hj]
    exact D2.out.cell (p := ⟨b, off + i * 33 + j, none⟩) hb1
  have HN := Lib.hid hn
  have HNE : Hid (b ≠ w.heap.size + 1) := Lib.hid (by omega)
  have nI : (L.length : Int) ≤ 1000 := by omega
  clear hr hn h0 hb1 hb3 hA
  go_enter Try.func15, Try.ntmps15
  go_wp2_with (first
    | refine wpList_alloc_z rfl 22 rfl _ HZ.out w.heap.size rfl ?_
    | refine wpList_alloc_z rfl 22 rfl _ HZ.out (w.heap.size + 1) (by simp) ?_)
  rw [← hW1, ← hW2]
  refine pi_loop _ _ _ _ _ _ _ _ _ _ _ _ _ _ _ _ _ _ _ _ _ _ _ _ _ _ _ _ _ _ _ _ _ _ _ _ _ _ _ _ _ _ _ _ _ _ _ _ _ _ _ _ _ _ _ _ _ _ _ _ _ _ _ _ _ _ L b off c (w.heap.size + 1) W2 HN.out HNE.out C2 O2 (Lib.hid ?_)
  intro u4 u5 u6 u7 u8 u9 u10 u11 u12 u13 u14 u15 u16 u17 u18 u19 u20 u21 u22 u23 u24 u25 u26 u27 u28 u29 u30 u31 u32 u33 u34 u35 u36 u37 u38 u39 u40 u41 u42 u43 u44 u45 u46 u47 u48 u49 u50 u51 u52 u53 u54 u55 u56 u57 u58 u59 u60 u61 u62 u63 u64 u65 u66 u67 wx HO SO
  have R5 : Hid (Blk wx w.heap.size 22 (zeros32.map bv)) := Lib.hid (SO.out.blk R2.out (by omega))
  have B5 : Hid (Below w.heap.size w wx) := Lib.hid (D2.out.trans (SO.out.below.mono (by omega)))
  clear hW1 hW2 S1 R2 O2 D2 C2 SO
  go_wp2_with (first
    | (refine wpList_load_blk rfl 22 (.tmp 3) rfl (w.heap.size + 1) rfl 22 ((combB L).map bv) _ HO.out Try.underlying22 rfl (by rw [HCL.out]; exact HI.out) ?_)
    | (refine wpList_store_blk rfl 22 _ _ rfl w.heap.size 22 _ R5.out ((combB L).map bv) rfl rfl (by rw [HCL.out, HZL.out]) (by rw [HCL.out]; exact HI.out) (bv_one _) ?_
       intro w9 hb9 hs9))
  refine bodyPost_ret (v := arrV (combB L)) ?_ rfl ⟨rfl, B5.out.trans hs9.below⟩
  exact results_blk (ty := 22) Try.results15 _ w9 w.heap.size 22 ((combB L).map bv) _ rfl hb9 Try.underlying22 rfl (by rw [HCL.out]; exact HI.out)
end Go.Proofs.Ytpegnafapjcanaa
