/- The contract of the eighth reference's Share. Conditions: a secret of 32 bytes, t and the draws at most 1000. -/
import Derived.Test.YtpegnafapjcanaaSRefA
import Derived.Test.YtpegnafapjcanaaShVal
import Derived.Great.Walk
import Derived.Deep.Cut
namespace Go.Proofs.Ytpegnafapjcanaa
open Go.RowKit

def ShiRel (O : Nat) (bs : List UInt8) (w : World) (i : Value) (wr : World) : Prop := ∃ k, i = .int .i64 ((k : Nat) : Int) ∧ k ≤ 32 ∧ Blk wr O 31 (putC 33 bs (k + 1)) ∧ Below O w wr
noncomputable def body_shi : Code := (((Try.f10.body.map loopsOf).getD [])[0]?).getD .skip
set_option maxRecDepth 100000 in
set_option maxHeartbeats 2000000 in
theorem shi_loop (c0 c5 c6 c7 c8 c11 c12 c13 c14 c15 c16 c17 c18 c19 c20 c21 c22 c23 c24 c25 c26 c27 c28 c29 c30 c31 c32 c33 c34 c35 c36 c37 c38 c39 c40 c41 c42 c43 c44 c45 c46 c47 c48 c49 c50 c51 c52 c53 c54 c55 : Value) (x : UInt8) (t cd P O : Nat) (Ad : Option Addr) (sec draws : List UInt8) (w : World) (hs : sec.length = 32) (ht : 1 ≤ t) (ht2 : t ≤ 1000) (hl : draws.length ≤ 1000)
    (hr : Hid (∀ wx, Below O w wx → Rd wx (.slice Ad draws.length cd) draws)) (hp : Hid (∀ wx, Below O w wx → Blk wx P 22 (sec.map bv))) (ho : Hid (Blk w O 31 (putC 33 (shareB sec x t draws) 1))) {Q : Exit → Act → World → Prop}
    (HQ : Hid (∀ (u10 u11 u12 u15 u16 u17 u18 u19 u20 u21 u22 u23 u24 u25 u26 u27 u28 u29 u30 u31 u32 u33 u34 u35 u36 u37 u38 u39 u40 u41 u42 u43 u44 u45 u46 u47 u48 u49 u50 u51 u52 u53 u54 : Value) (wx : World), Hid (Blk wx O 31 ((shareB sec x t draws).map bv)) → Hid (Below O w wx) → Q (.exit 0) ⟨List.toArray (c0 :: (.int .u8 (x.toNat : Int)) :: (.int .i64 (t : Int)) :: (.slice Ad draws.length cd) :: (.pointer (some ⟨P, 0, none⟩)) :: c5 :: c6 :: c7 :: c8 :: (.pointer (some ⟨O, 0, none⟩)) :: u10 :: u11 :: u12 :: c13 :: c14 :: u15 :: u16 :: u17 :: u18 :: u19 :: u20 :: u21 :: u22 :: u23 :: u24 :: u25 :: u26 :: u27 :: u28 :: u29 :: u30 :: u31 :: u32 :: u33 :: u34 :: u35 :: u36 :: u37 :: u38 :: u39 :: u40 :: u41 :: u42 :: u43 :: u44 :: u45 :: u46 :: u47 :: u48 :: u49 :: u50 :: u51 :: u52 :: u53 :: u54 :: c55 :: []), []⟩ wx)) :
    (Code.loop body_shi).wp Try.prog Q ⟨List.toArray (c0 :: (.int .u8 (x.toNat : Int)) :: (.int .i64 (t : Int)) :: (.slice Ad draws.length cd) :: (.pointer (some ⟨P, 0, none⟩)) :: c5 :: c6 :: c7 :: c8 :: (.pointer (some ⟨O, 0, none⟩)) :: (.int .i64 0) :: c11 :: c12 :: c13 :: c14 :: c15 :: c16 :: c17 :: c18 :: c19 :: c20 :: c21 :: c22 :: c23 :: c24 :: c25 :: c26 :: c27 :: c28 :: c29 :: c30 :: c31 :: c32 :: c33 :: c34 :: c35 :: c36 :: c37 :: c38 :: c39 :: c40 :: c41 :: c42 :: c43 :: c44 :: c45 :: c46 :: c47 :: c48 :: c49 :: c50 :: c51 :: c52 :: c53 :: c54 :: c55 :: []), []⟩ w := by
  have HX : Hid (x.toNat < 256) := Lib.hid x.toNat_lt
  have HT := Lib.hid ht
  have HT2 := Lib.hid ht2
  have HL := Lib.hid hl
  have HS := Lib.hid hs
  obtain ⟨bs, hbs⟩ : ∃ bs, bs = shareB sec x t draws := ⟨_, rfl⟩
  have HBL : Hid (bs.length = 33) := Lib.hid (by rw [hbs, shareB_length])
  have HBY : Hid (∀ k, k < 32 → bs[k + 1]? = some (ge (polL sec t draws k) x)) := Lib.hid fun k hk => by
    rw [hbs]
    unfold shareB
    rw [List.getElem?_cons_succ, List.getElem?_map, List.getElem?_range hk]
    rfl
  have HBA : Hid (putC 33 bs 33 = bs.map bv) := Lib.hid (by
    unfold putC
    rw [List.take_of_length_le (by rw [HBL.out]; omega)]
    simp)
  rw [← hbs] at ho HQ
  clear ht ht2 hl hs hbs
  unfold body_shi
  conv => arg 2; arg 1; whnf
  go_loopw [10] (fun i wx => ShiRel O bs w i wx) (fun i _ => 32 - (intOf i).toNat)
  case atStart => exact ⟨0, rfl, by omega, ho.out, Below.refl _ _⟩
  case round =>
    obtain ⟨k, rfl, hk, hblk, bl⟩ := hrel
    have HLB := Lib.hid bl
    by_cases hlt : k < 32
    · have hI : (k : Int) < 32 := by omega
      have HK := Lib.hid hlt
      obtain ⟨c, hc⟩ : ∃ c, c = sec.getD k 0 := ⟨_, rfl⟩
      have k4 : wr.cell? ⟨P, k, none⟩ = some (.int .u8 (c.toNat : Int)) := by
        rw [(hp.out wr bl).cell k, List.getElem?_map, List.getElem?_eq_getElem (by rw [HS.out]; omega), hc, List.getD, List.getElem?_eq_getElem (by rw [HS.out]; omega)]
        rfl
      have HC := Lib.hid hc
      obtain ⟨y, hy⟩ : ∃ y, y = ge (polL sec t draws k) x := ⟨_, rfl⟩
      have HY : Hid (geval (polL sec t draws k) x.toNat = y.toNat) := Lib.hid (by rw [hy]; exact geval_ge x _)
      have hyl := y.toNat_lt
      have hcc : bs[k + 1]? = some y := by rw [hy]; exact HBY.out k hlt
      have HST := Lib.hid (hblk.set (k + 1) (bv y))
      rw [putC_set (by omega) hcc] at HST
      have f4 : ∀ m, (wr.drewN m).frozen? ⟨O, 1 + k, none⟩ = false := fun m => by rw [Nat.add_comm]; exact (hblk.drewN m).free (k + 1)
      obtain ⟨u, hu⟩ : ∃ u, ∀ m, (wr.drewN m).cell? ⟨O, 1 + k, none⟩ = some u := by
        refine ⟨(putC 33 bs (k + 1))[k + 1]'?_, fun m => ?_⟩
        · rw [putC_length (by omega) (by rw [HBL.out]; omega)]; omega
        · rw [Nat.add_comm, (hblk.drewN m).cell (k + 1)]; exact List.getElem?_eq_getElem _
      have HL4 := Lib.hid (fun m => (below_drewN bl m).setCell (p := ⟨O, 1 + k, none⟩) (Nat.le_refl _) (bv y))
      have HST2 : Hid (∀ m, Blk ((wr.drewN m).setCell ⟨O, 1 + k, none⟩ (bv y)) O 31 (putC 33 bs (k + 1 + 1))) := Lib.hid fun m => by
        rw [Nat.add_comm 1 k]
        have h := (hblk.drewN m).set (k + 1) (bv y)
        rw [putC_set (by omega) hcc] at h
        exact h
      unfold bv at HL4 HST2
      clear hcc hblk hy hc HST bl hk hlt
      go_wp2_with (fail)
      rw [HC.out]
      refine shj_loop _ _ _ _ _ _ _ _ _ _ _ _ _ _ _ _ _ _ _ _ _ _ _ _ _ _ _ _ _ _ _ _ _ _ _ _ _ _ _ _ _ _ _ _ _ _ _ _ _ _ x.toNat t k cd Ad sec draws wr HX.out HT.out HT2.out HK.out HL.out (Lib.hid (hr.out wr HLB.out)) (Lib.hid ?_)
      intro u12 u22 u23 u24 u25 u26 u27 u28 u29 u30 u31 u32 u33 u34 u35 u36 u37 u38 u39 u40 u41 u42 u43 u44 u45 u46 u47 u48 u49 u50 m
      rw [HY.out]
      go_wp2_with (fail)
      go_roundw
      case rel => exact ⟨k + 1, by go_num, by have := HK.out; omega, HST2.out m, HL4.out m⟩
      case measure => have := HK.out; simp [intOf]; omega
    · obtain rfl : k = 32 := by omega
      have HBK : Hid (Blk wr O 31 (bs.map bv)) := Lib.hid (by rw [← HBA.out]; exact hblk)
      clear hblk bl
      go_wp2_with (fail)
      exact HQ.out _ _ _ _ _ _ _ _ _ _ _ _ _ _ _ _ _ _ _ _ _ _ _ _ _ _ _ _ _ _ _ _ _ _ _ _ _ _ _ _ _ _ _ _ HBK HLB
set_option maxRecDepth 100000 in
set_option maxHeartbeats 2000000 in
theorem refShare_any (sec : List UInt8) (x : UInt8) (t : Nat) (v : Value) (draws : List UInt8) (w : World) (hs : sec.length = 32) (ht : 1 ≤ t) (ht2 : t ≤ 1000) (hr : Rd w v draws) (hl : draws.length ≤ 1000) :
    Calls Try.prog 10 #[arrV sec, .int .u8 (x.toNat : Int), .int .i64 (t : Int), v] w fun e w' => e = .returned (arrV (shareB sec x t draws)) ∧ Below w.heap.size w w' := by
  obtain ⟨Ad, cd, rfl, _⟩ := hr.form
  have HR := Lib.hid hr
  have HL := Lib.hid hl
  have HT := Lib.hid ht
  have HT2 := Lib.hid ht2
  have HSL := Lib.hid hs
  obtain ⟨bs, hbs⟩ : ∃ bs, bs = shareB sec x t draws := ⟨_, rfl⟩
  have HBL : Hid ((bs.map bv).length = 33) := Lib.hid (by rw [hbs, List.length_map, shareB_length])
  have HBS := Lib.hid hbs
  have xI : (x.toNat : Int) < 256 := by have := x.toNat_lt; omega
  have HI33 : Hid ((Try.prog.info? 31).map (·.size) = some 33) := by show _ = _; kernel_rfl
  obtain ⟨W1, hW1⟩ : ∃ W : World, W = (w.alloc (.cells (sec.map bv).toArray 22)).alloc (.cells (zeros33.map bv).toArray 31) := ⟨_, rfl⟩
  obtain ⟨W2, hW2⟩ : ∃ W : World, W = W1.alloc (.cells (zeros33.map bv).toArray 31) := ⟨_, rfl⟩
  have S1 : Hid (W1.heap.size = w.heap.size + 1 + 1) := Lib.hid (by rw [hW1]; simp)
  have P1 : Hid (Blk W1 w.heap.size 22 (sec.map bv)) := Lib.hid (by rw [hW1]; exact (Blk.made w _ _).alloc _)
  have R1 : Hid (Blk W1 (w.heap.size + 1) 31 (zeros33.map bv)) := Lib.hid (by
    have h := Blk.made (w.alloc (.cells (sec.map bv).toArray 22)) 31 (zeros33.map bv)
    rw [World.size_alloc] at h
    rw [hW1]
    exact h)
  have D1 : Hid (Below w.heap.size w W1) := Lib.hid (by rw [hW1]; exact (((Below.refl _ _).alloc (Nat.le_refl _) _).alloc (by simp) _))
  have O2 : Hid (Blk W2 (w.heap.size + 1 + 1) 31 (zeros33.map bv)) := Lib.hid (by
    have h := Blk.made W1 31 (zeros33.map bv)
    rw [S1.out] at h
    rw [hW2]
    exact h)
  have P2 : Hid (Blk W2 w.heap.size 22 (sec.map bv)) := Lib.hid (by rw [hW2]; exact P1.out.alloc _)
  have R2 : Hid (Blk W2 (w.heap.size + 1) 31 (zeros33.map bv)) := Lib.hid (by rw [hW2]; exact R1.out.alloc _)
  have D2 : Hid (Below w.heap.size w W2) := Lib.hid (by rw [hW2]; exact D1.out.alloc D1.out.size _)
  have HZ : Hid ((Try.prog.info? 31).bind (·.zero) = some (.agg (zeros33.map bv).toArray)) := Lib.hid (zero_of info_share)
  have HB1 : Hid (Try.prog.built 31 [(0, .int .u8 (x.toNat : Int))] = some ((x :: List.replicate 32 (0 : UInt8)).map bv).toArray) := Lib.hid (share_built1 x)
  have HXL : Hid (((x :: List.replicate 32 (0 : UInt8)).map bv).length = 33) := Lib.hid (by simp)
  have HZL : Hid ((zeros33.map bv).length = 33) := Lib.hid (by simp [zeros33])
  have HPX : Hid ((x :: List.replicate 32 (0 : UInt8)).map bv = putC 33 bs 1) := Lib.hid (by
    rw [hbs]
    unfold putC shareB
    simp
    rfl)
  clear hr hl ht ht2 hs hbs
  unfold arrV
  go_enter Try.func10, Try.ntmps10
  go_upto_region 1 with (first
    | refine Go.Great.wpList_boxTo rfl _ _ rfl _ rfl w.heap.size rfl ((sec.map bv).toArray) rfl ?_
    | (refine wpList_alloc_z rfl 31 rfl _ HZ.out (w.heap.size + 1) (by simp) ?_))
  rw [← hW1]
  clear hW1
  go_upto_region 2 with (first
    | refine wpList_build_is rfl 31 _ rfl _ rfl _ HB1.out ?_
    | (refine wpList_alloc_z rfl 31 rfl _ HZ.out _ S1.out ?_
       rw [← hW2])
    | (refine wpList_store_blk rfl 31 _ _ rfl (w.heap.size + 1 + 1) 31 _ O2.out ((x :: List.replicate 32 (0 : UInt8)).map bv) rfl rfl (by rw [HXL.out, HZL.out]) (by rw [HXL.out]; exact HI33.out) (bv_one _) ?_
       intro w3 hb3 hs3
       have O3 := Lib.hid hb3
       have S3 := Lib.hid hs3
       clear hb3 hs3))
  have B3 : Hid (Below w.heap.size w w3) := Lib.hid (D2.out.trans (S3.out.below.mono (by omega)))
  have P3 : Hid (Blk w3 w.heap.size 22 (sec.map bv)) := Lib.hid (S3.out.blk P2.out (by omega))
  have R3 : Hid (Blk w3 (w.heap.size + 1) 31 (zeros33.map bv)) := Lib.hid (S3.out.blk R2.out (by omega))
  have O4 : Hid (Blk w3 (w.heap.size + 1 + 1) 31 (putC 33 (shareB sec x t draws) 1)) := Lib.hid (by rw [← HBS.out, ← HPX.out]; exact O3.out)
  clear O3 S3 hW2
  go_wp2_with (fail)
  refine shi_loop _ _ _ _ _ _ _ _ _ _ _ _ _ _ _ _ _ _ _ _ _ _ _ _ _ _ _ _ _ _ _ _ _ _ _ _ _ _ _ _ _ _ _ _ _ _ _ _ _ _ x t cd w.heap.size (w.heap.size + 1 + 1) Ad sec draws w3 HSL.out HT.out HT2.out HL.out (Lib.hid fun wx hx => HR.out.below (B3.out.trans (hx.mono (by omega)))) (Lib.hid fun wx hx => P3.out.below hx (by omega)) O4 (Lib.hid ?_)
  intro u10 u11 u12 u15 u16 u17 u18 u19 u20 u21 u22 u23 u24 u25 u26 u27 u28 u29 u30 u31 u32 u33 u34 u35 u36 u37 u38 u39 u40 u41 u42 u43 u44 u45 u46 u47 u48 u49 u50 u51 u52 u53 u54 wx HO HB
  rw [← HBS.out] at HO
  have B5 : Hid (Below w.heap.size w wx) := Lib.hid (B3.out.trans (HB.out.mono (by omega)))
  have R5 : Hid (Blk wx (w.heap.size + 1) 31 (zeros33.map bv)) := Lib.hid (R3.out.below HB.out (by omega))
  clear HB O4 P3 R3 B3 P2 R2 D2 O2 P1 R1 D1
  go_wp2_with (first
    | (refine wpList_load_blk rfl 31 (.tmp 9) rfl (w.heap.size + 1 + 1) rfl 31 (bs.map bv) _ HO.out Try.underlying31 rfl (by rw [HBL.out]; exact HI33.out) ?_)
    | (refine wpList_store_blk rfl 31 _ _ rfl (w.heap.size + 1) 31 _ R5.out (bs.map bv) rfl rfl (by rw [HBL.out, HZL.out]) (by rw [HBL.out]; exact HI33.out) (bv_one _) ?_
       intro w9 hb9 hs9))
  refine bodyPost_ret (v := arrV bs) ?_ rfl ⟨by rw [HBS.out]; rfl, B5.out.trans (hs9.below.mono (by omega))⟩
  exact results_blk (ty := 31) Try.results10 _ w9 (w.heap.size + 1) 31 (bs.map bv) _ rfl hb9 Try.underlying31 rfl (by rw [HBL.out]; exact HI33.out)
end Go.Proofs.Ytpegnafapjcanaa
