/- The developers' Merge: its inner loop, over one list's pieces. Conditions: at most a thousand pieces in all. -/
import Derived.Test.YthhojjdccfcicaaPcMrg
import Derived.Test.YthhojjdccfcicaaPcAsk
import Derived.Test.YthhojjdccfcicaaHere
import Derived.Deep.Cut
namespace Go.Proofs.Ythhojjdccfcicaa
open Go.RowKit
theorem infZ : (Try.prog.info? 27).bind (·.zero) = some (.agg #[.string ByteArray.empty, .int .i64 0, .int .i64 0, .int .u64 0, .int .u16 0]) := by kernel_rfl
theorem mg_put {w0 w w' : World} {b j : Nat} {done ps : List Pc} {p : Pc} {f : ByteArray × Int → Option PcO} (hS : MgAt w0 b (done ++ ps.take j) w) (hg : MgOf f (done ++ ps.take j)) (hok : p.Ok) (hm : p.may) (ho : ∀ old, f (p.s, p.t) = some old → outP p old.1)
    (hm7 : MapK placeK w' b ((done ++ ps.take j).length + 1) (updK (fun k => (f k).map pcV) (p.s, p.t) (some (pcV ⟨p, hok⟩)))) (hc : Chg (fun k => k = b) w w') (ht : ps.take (j + 1) = ps.take j ++ [p]) : MgAt w0 b (done ++ ps.take (j + 1)) w' := by
  rw [ht, ← List.append_assoc]
  refine ⟨⟨putP f ⟨p, hok⟩, ?_, hg.put (p := ⟨p, hok⟩) hm ho⟩, hS.base, hS.below.trans ⟨hc.os, hc.tape, hc.output, hc.size, fun k hk => hc.keep k (Nat.lt_of_lt_of_le hk hS.below.size) (by have := hS.base; omega)⟩⟩
  unfold MapP
  rw [← upd_put f ⟨p, hok⟩, List.length_append]
  exact hm7
noncomputable def body_mi : Code := (((Try.f13.body.map loopsOf).getD [])[1]?).getD .skip
set_option maxRecDepth 100000 in
set_option maxHeartbeats 8000000 in
theorem mi_loop (c0 c1 c2 c4 c5 c6 c7 c8 c9 c10 c11 c12 c13 c14 c15 c16 c17 c21 c22 c23 c24 c25 c26 c27 c28 c29 c30 c31 c32 c33 c34 c35 c36 c37 c38 c39 c40 c41 c42 c43 c44 c45 c46 c47 c48 c49 c50 c51 c52 : Value) (A : Option Addr) (ca : Nat) (ps done : List Pc) (w0 w : World) (b : Nat) (hps : Hid (RsP w0 (.slice A ps.length ca) ps)) (hM : Hid (MgAt w0 b done w)) (hn : Hid (done.length + ps.length ≤ 1000)) {Q : Exit → Act → World → Prop}
    (HQ : Hid (∀ (u7 u8 u9 u10 u21 u22 u23 u24 u25 u26 u27 u28 u29 u30 u31 u32 u33 u34 u35 u36 u37 u38 u39 u40 u41 u42 u43 u44 u45 u46 u47 u48 y : Value) (w' : World), Hid (MgAt w0 b (done ++ ps) w') → Q (.exit 2) ⟨List.toArray (c0 :: c1 :: c2 :: (.map (some b)) :: c4 :: c5 :: c6 :: u7 :: u8 :: u9 :: u10 :: c11 :: c12 :: c13 :: c14 :: c15 :: c16 :: c17 :: (.slice A ps.length ca) :: (.int .i64 (ps.length : Int)) :: y :: u21 :: u22 :: u23 :: u24 :: u25 :: u26 :: u27 :: u28 :: u29 :: u30 :: u31 :: u32 :: u33 :: u34 :: u35 :: u36 :: u37 :: u38 :: u39 :: u40 :: u41 :: u42 :: u43 :: u44 :: u45 :: u46 :: u47 :: u48 :: c49 :: c50 :: c51 :: c52 :: []), []⟩ w')) :
    (Code.loop body_mi).wp Try.prog Q ⟨List.toArray (c0 :: c1 :: c2 :: (.map (some b)) :: c4 :: c5 :: c6 :: c7 :: c8 :: c9 :: c10 :: c11 :: c12 :: c13 :: c14 :: c15 :: c16 :: c17 :: (.slice A ps.length ca) :: (.int .i64 (ps.length : Int)) :: (.int .i64 0) :: c21 :: c22 :: c23 :: c24 :: c25 :: c26 :: c27 :: c28 :: c29 :: c30 :: c31 :: c32 :: c33 :: c34 :: c35 :: c36 :: c37 :: c38 :: c39 :: c40 :: c41 :: c42 :: c43 :: c44 :: c45 :: c46 :: c47 :: c48 :: c49 :: c50 :: c51 :: c52 :: []), []⟩ w := by
  unfold body_mi
  conv => arg 2; arg 1; whnf
  go_loopw [20] (fun x wx => ∃ (j : Nat), x = .int .i64 (j : Int) ∧ j ≤ ps.length ∧ MgAt w0 b (done ++ ps.take j) wx) (fun x _ => ps.length - (intOf x).toNat)
  case atStart => exact ⟨0, rfl, Nat.zero_le _, by rw [List.take_zero, List.append_nil]; exact hM.out⟩
  case round =>
    obtain ⟨j, rfl, hj, hS⟩ := hrel
    have hml : ps.length ≤ maxLen := by
      obtain ⟨_, _, _, h⟩ := hps.out.form
      exact h
    unfold maxLen at hml
    have pI : (ps.length : Int) ≤ 9223372036854775807 := by omega
    by_cases hlt : j < ps.length
    · have jI : (j : Int) < ps.length := by omega
      have HLT := Lib.hid hlt
      obtain ⟨p, hp⟩ : ∃ p, ps[j]? = some p := ⟨_, List.getElem?_eq_getElem hlt⟩
      obtain ⟨g, o, rfl, hg, hr, hok⟩ := (hps.out.below hS.below).at2 hp
      obtain ⟨k0, k1, k2, k3, k4⟩ := range5 hr
      have HT : Hid (ps.take (j + 1) = ps.take j ++ [p]) := Lib.hid (by rw [List.take_add_one, hp]; rfl)
      have HOK := Lib.hid hok
      have HS := Lib.hid hS
      have hln : (done ++ ps.take j).length ≤ 1000 ∧ (done ++ ps.take j).length < (done ++ ps.take (j + 1)).length := by
        have := hn.out
        rw [HT.out, ← List.append_assoc, List.length_append, List.length_append, List.length_take]
        simp
        omega
      have HLN := Lib.hid hln
      obtain ⟨W1, hW1⟩ : ∃ V, V = wr.alloc (.cells #[.string p.s, .int .i64 p.t, .int .i64 p.v, .int .u64 (p.n : Int), .int .u16 (p.o : Int)] 27) := ⟨_, rfl⟩
      have S1 : Hid (MgAt w0 b (done ++ ps.take j) W1) := Lib.hid (by rw [hW1]; exact hS.on ((Below.refl _ _).alloc (Nat.le_refl _) _))
      have hP1 : Hid (Blk W1 wr.heap.size 27 [.string p.s, .int .i64 p.t, .int .i64 p.v, .int .u64 (p.n : Int), .int .u16 (p.o : Int)]) := Lib.hid (by rw [hW1]; exact Blk.made wr _ _)
      have q0 : W1.cell? ⟨wr.heap.size, 0, none⟩ = some (.string p.s) := hP1.out.cell 0
      have q1 : W1.cell? ⟨wr.heap.size, 1, none⟩ = some (.int .i64 p.t) := hP1.out.cell 1
      have q2 : W1.cell? ⟨wr.heap.size, 2, none⟩ = some (.int .i64 p.v) := hP1.out.cell 2
      have q3 : W1.cell? ⟨wr.heap.size, 3, none⟩ = some (.int .u64 (p.n : Int)) := hP1.out.cell 3
      have q4 : W1.cell? ⟨wr.heap.size, 4, none⟩ = some (.int .u16 (p.o : Int)) := hP1.out.cell 4
      have hok' := hok
      clear hr hok hg hlt hj hS hml hln hp
      go_upto_region 8 with (fail)
      rw [← hW1]
      clear hW1 k0 k1 k2 k3 k4
      have HC := Lib.hid (chkP_any p W1 hok')
      by_cases hm : p.may
      · have HMY := Lib.hid hm
        rw [if_pos hm] at HC
        clear hm hok'
        go_wp2_with (fail)
        refine (HC.out).mono ?_
        rintro e w2 ⟨rfl, hb2⟩
        have S2 := Lib.hid (S1.out.on hb2)
        have P2 := Lib.hid (hP1.out.below hb2 hP1.out.lt)
        have hlt1 := hP1.out.lt
        have hsz2 := hb2.size
        have HL2 : Hid (wr.heap.size < w2.heap.size) := Lib.hid (by omega)
        clear q0 q1 q2 q3 q4 S1 hP1 HC hb2 hlt1 hsz2
        have q0 : w2.cell? ⟨wr.heap.size, 0, none⟩ = some (.string p.s) := P2.out.cell 0
        have q1 : w2.cell? ⟨wr.heap.size, 1, none⟩ = some (.int .i64 p.t) := P2.out.cell 1
        obtain ⟨W3, hW3⟩ : ∃ V, V = w2.alloc (.cells #[.string p.s, .int .i64 p.t] 45) := ⟨_, rfl⟩
        have S3 : Hid (MgAt w0 b (done ++ ps.take j) W3) := Lib.hid (by rw [hW3]; exact S2.out.on ((Below.refl _ _).alloc (Nat.le_refl _) _))
        have P3 : Hid (Blk W3 wr.heap.size 27 [.string p.s, .int .i64 p.t, .int .i64 p.v, .int .u64 (p.n : Int), .int .u16 (p.o : Int)]) := Lib.hid (by rw [hW3]; exact P2.out.alloc _)
        have K3 : Hid (Blk W3 w2.heap.size 45 [.string p.s, .int .i64 p.t]) := Lib.hid (by rw [hW3]; exact Blk.made w2 _ _)
        go_upto_region 10 with (fail)
        rw [← hW3]
        clear hW3 q0 q1 S2 P2
        have z0 : W3.cell? ⟨w2.heap.size, 0, none⟩ = some (.string p.s) := K3.out.cell 0
        have z1 : W3.cell? ⟨w2.heap.size, 1, none⟩ = some (.int .i64 p.t) := K3.out.cell 1
        obtain ⟨f, hmap, hmg⟩ := S3.out.map
        have HMP := Lib.hid hmap
        have HMG := Lib.hid hmg
        have hkey : placeK.ok (p.s, p.t) := ⟨HOK.out.s, HOK.out.t⟩
        have HKEY := Lib.hid hkey
        clear hmap hmg hkey
        cases hf : f (p.s, p.t) with
        | none =>
          have HF := Lib.hid hf
          have HV : Hid (((fun k => (f k).map pcV) (p.s, p.t)).getD (.agg #[.string ByteArray.empty, .int .i64 0, .int .i64 0, .int .u64 0, .int .u16 0]) = .agg #[.string ByteArray.empty, .int .i64 0, .int .i64 0, .int .u64 0, .int .u16 0] ∧ ((fun k => (f k).map pcV) (p.s, p.t)).isSome = false) := Lib.hid (by simp only [hf]; exact ⟨rfl, rfl⟩)
          obtain ⟨W4, hW4⟩ : ∃ V, V = W3.alloc (.cells #[.string ByteArray.empty, .int .i64 0, .int .i64 0, .int .u64 0, .int .u16 0] 27) := ⟨_, rfl⟩
          have S4 : Hid (MgAt w0 b (done ++ ps.take j) W4) := Lib.hid (by rw [hW4]; exact S3.out.on ((Below.refl _ _).alloc (Nat.le_refl _) _))
          have P4 : Hid (Blk W4 wr.heap.size 27 [.string p.s, .int .i64 p.t, .int .i64 p.v, .int .u64 (p.n : Int), .int .u16 (p.o : Int)]) := Lib.hid (by rw [hW4]; exact P3.out.alloc _)
          have K4 : Hid (Blk W4 w2.heap.size 45 [.string p.s, .int .i64 p.t]) := Lib.hid (by rw [hW4]; exact K3.out.alloc _)
          have M4 : Hid (MapP W4 b (done ++ ps.take j).length f) := Lib.hid (by rw [hW4]; exact MapK.below HMP.out ((Below.refl _ _).alloc (Nat.le_refl _) _) (MapK.lt HMP.out))
          clear hf
          go_upto_region 12 with (with_reducible refine here_look ?_
                                  refine wpList_lookK_ok (C := placeK) rfl _ _ 43 27 rfl map_mapV infZ rfl HMP.out HKEY.out rfl _ HV.out.1 false HV.out.2 ?_
                                  go_frame)
          rw [← hW4]
          clear hW4 z0 z1 S3 P3 K3 HV
          have r0 : W4.cell? ⟨wr.heap.size, 0, none⟩ = some (.string p.s) := P4.out.cell 0
          have r1 : W4.cell? ⟨wr.heap.size, 1, none⟩ = some (.int .i64 p.t) := P4.out.cell 1
          have r2 : W4.cell? ⟨wr.heap.size, 2, none⟩ = some (.int .i64 p.v) := P4.out.cell 2
          have r3 : W4.cell? ⟨wr.heap.size, 3, none⟩ = some (.int .u64 (p.n : Int)) := P4.out.cell 3
          have r4 : W4.cell? ⟨wr.heap.size, 4, none⟩ = some (.int .u16 (p.o : Int)) := P4.out.cell 4
          have y0 : W4.cell? ⟨w2.heap.size, 0, none⟩ = some (.string p.s) := K4.out.cell 0
          have y1 : W4.cell? ⟨w2.heap.size, 1, none⟩ = some (.int .i64 p.t) := K4.out.cell 1
          go_wp2_with (with_reducible refine here_upd ?_
                       refine wpList_updateK (C := placeK) rfl _ _ _ 43 27 rfl map_mapV rfl M4.out (by have := HLN.out.1; unfold maxLen; omega) HKEY.out rfl (pcV ⟨p, HOK.out⟩) rfl ?_
                       intro w7 hm7 hc7
                       have S7 : Hid (MgAt w0 b (done ++ ps.take (j + 1)) w7) := Lib.hid (mg_put S4.out HMG.out HOK.out HMY.out (fun old ho => by rw [HF.out] at ho; cases ho) hm7 hc7 HT.out)
                       clear hm7 hc7
                       go_frame)
          have hlt := HLT.out
          refine ⟨⟨j + 1, by go_num, by omega, S7.out⟩, by simp [intOf]; omega⟩
        | some old =>
          obtain ⟨q, hq⟩ : ∃ q, q = old.1 := ⟨_, rfl⟩
          have HF := Lib.hid hf
          have HQ2 := Lib.hid hq
          have HV : Hid (((fun k => (f k).map pcV) (p.s, p.t)).getD (.agg #[.string ByteArray.empty, .int .i64 0, .int .i64 0, .int .u64 0, .int .u16 0]) = .agg #[.string q.s, .int .i64 q.t, .int .i64 q.v, .int .u64 (q.n : Int), .int .u16 (q.o : Int)] ∧ ((fun k => (f k).map pcV) (p.s, p.t)).isSome = true) := Lib.hid (by simp only [hf]; rw [hq]; exact ⟨rfl, rfl⟩)
          obtain ⟨W4, hW4⟩ : ∃ V, V = W3.alloc (.cells #[.string q.s, .int .i64 q.t, .int .i64 q.v, .int .u64 (q.n : Int), .int .u16 (q.o : Int)] 27) := ⟨_, rfl⟩
          have S4 : Hid (MgAt w0 b (done ++ ps.take j) W4) := Lib.hid (by rw [hW4]; exact S3.out.on ((Below.refl _ _).alloc (Nat.le_refl _) _))
          have P4 : Hid (Blk W4 wr.heap.size 27 [.string p.s, .int .i64 p.t, .int .i64 p.v, .int .u64 (p.n : Int), .int .u16 (p.o : Int)]) := Lib.hid (by rw [hW4]; exact P3.out.alloc _)
          have K4 : Hid (Blk W4 w2.heap.size 45 [.string p.s, .int .i64 p.t]) := Lib.hid (by rw [hW4]; exact K3.out.alloc _)
          have M4 : Hid (MapP W4 b (done ++ ps.take j).length f) := Lib.hid (by rw [hW4]; exact MapK.below HMP.out ((Below.refl _ _).alloc (Nat.le_refl _) _) (MapK.lt HMP.out))
          have Q4 : Hid (Blk W4 W3.heap.size 27 [.string q.s, .int .i64 q.t, .int .i64 q.v, .int .u64 (q.n : Int), .int .u16 (q.o : Int)]) := Lib.hid (by rw [hW4]; exact Blk.made W3 _ _)
          clear hf hq
          go_upto_region 11 with (with_reducible refine here_look ?_
                                  refine wpList_lookK_ok (C := placeK) rfl _ _ 43 27 rfl map_mapV infZ rfl HMP.out HKEY.out rfl _ HV.out.1 true HV.out.2 ?_
                                  go_frame)
          rw [← hW4]
          clear hW4 z0 z1 S3 P3 K3 HV
          have r0 : W4.cell? ⟨wr.heap.size, 0, none⟩ = some (.string p.s) := P4.out.cell 0
          have r1 : W4.cell? ⟨wr.heap.size, 1, none⟩ = some (.int .i64 p.t) := P4.out.cell 1
          have r2 : W4.cell? ⟨wr.heap.size, 2, none⟩ = some (.int .i64 p.v) := P4.out.cell 2
          have r3 : W4.cell? ⟨wr.heap.size, 3, none⟩ = some (.int .u64 (p.n : Int)) := P4.out.cell 3
          have r4 : W4.cell? ⟨wr.heap.size, 4, none⟩ = some (.int .u16 (p.o : Int)) := P4.out.cell 4
          have v0 : W4.cell? ⟨W3.heap.size, 0, none⟩ = some (.string q.s) := Q4.out.cell 0
          have v1 : W4.cell? ⟨W3.heap.size, 1, none⟩ = some (.int .i64 q.t) := Q4.out.cell 1
          have v2 : W4.cell? ⟨W3.heap.size, 2, none⟩ = some (.int .i64 q.v) := Q4.out.cell 2
          have v3 : W4.cell? ⟨W3.heap.size, 3, none⟩ = some (.int .u64 (q.n : Int)) := Q4.out.cell 3
          have v4 : W4.cell? ⟨W3.heap.size, 4, none⟩ = some (.int .u16 (q.o : Int)) := Q4.out.cell 4
          have HO := Lib.hid (outdoes_any p q W4)
          cases hout : outB p q with
          | false =>
            have HN2 : Hid (¬ outP p old.1) := Lib.hid fun h => by
              rw [← HQ2.out, ← outB_iff, hout] at h
              cases h
            rw [hout] at HO
            clear hout
            go_wp2_with (fail)
            refine (HO.out).mono ?_
            rintro e w5 ⟨rfl, hb5⟩
            have S5 : Hid (MgAt w0 b (done ++ ps.take (j + 1)) w5) := Lib.hid (by
              rw [HT.out, ← List.append_assoc]
              exact ⟨⟨f, (MapK.below M4.out hb5 (MapK.lt M4.out)).more (by simp), HMG.out.keep HF.out HN2.out⟩, S4.out.base, (S4.out.on hb5).below⟩)
            clear r0 r1 r2 r3 r4 v0 v1 v2 v3 v4 HO hb5 S4 P4 K4 M4 Q4
            go_wp2_with (fail)
            have hlt := HLT.out
            refine ⟨⟨j + 1, by go_num, by omega, S5.out⟩, by simp [intOf]; omega⟩
          | true =>
            have HN2 : Hid (outP p old.1) := Lib.hid (by rw [← HQ2.out, ← outB_iff]; exact hout)
            rw [hout] at HO
            clear hout
            go_wp2_with (fail)
            refine (HO.out).mono ?_
            rintro e w5 ⟨rfl, hb5⟩
            have S5 := Lib.hid (S4.out.on hb5)
            have P5 := Lib.hid (P4.out.below hb5 P4.out.lt)
            have K5 := Lib.hid (K4.out.below hb5 K4.out.lt)
            have M5 : Hid (MapP w5 b (done ++ ps.take j).length f) := Lib.hid (MapK.below M4.out hb5 (MapK.lt M4.out))
            clear r0 r1 r2 r3 r4 v0 v1 v2 v3 v4 HO hb5 S4 P4 K4 M4 Q4
            have r0 : w5.cell? ⟨wr.heap.size, 0, none⟩ = some (.string p.s) := P5.out.cell 0
            have r1 : w5.cell? ⟨wr.heap.size, 1, none⟩ = some (.int .i64 p.t) := P5.out.cell 1
            have r2 : w5.cell? ⟨wr.heap.size, 2, none⟩ = some (.int .i64 p.v) := P5.out.cell 2
            have r3 : w5.cell? ⟨wr.heap.size, 3, none⟩ = some (.int .u64 (p.n : Int)) := P5.out.cell 3
            have r4 : w5.cell? ⟨wr.heap.size, 4, none⟩ = some (.int .u16 (p.o : Int)) := P5.out.cell 4
            have y0 : w5.cell? ⟨w2.heap.size, 0, none⟩ = some (.string p.s) := K5.out.cell 0
            have y1 : w5.cell? ⟨w2.heap.size, 1, none⟩ = some (.int .i64 p.t) := K5.out.cell 1
            go_wp2_with (with_reducible refine here_upd ?_
                         refine wpList_updateK (C := placeK) rfl _ _ _ 43 27 rfl map_mapV rfl M5.out (by have := HLN.out.1; unfold maxLen; omega) HKEY.out rfl (pcV ⟨p, HOK.out⟩) rfl ?_
                         intro w7 hm7 hc7
                         have S7 : Hid (MgAt w0 b (done ++ ps.take (j + 1)) w7) := Lib.hid (mg_put S5.out HMG.out HOK.out HMY.out (fun old' ho => by rw [HF.out] at ho; injection ho with ho; rw [← ho]; exact HN2.out) hm7 hc7 HT.out)
                         clear hm7 hc7
                         go_frame)
            have hlt := HLT.out
            refine ⟨⟨j + 1, by go_num, by omega, S7.out⟩, by simp [intOf]; omega⟩
      · have HNX : Hid (MgAt w0 b (done ++ ps.take (j + 1)) W1 → True) := Lib.hid fun _ => trivial
        have HMY := Lib.hid hm
        rw [if_neg hm] at HC
        clear hm hok'
        go_wp2_with (fail)
        refine (HC.out).mono ?_
        rintro e w2 ⟨rfl, hb2⟩
        have S2 : Hid (MgAt w0 b (done ++ ps.take (j + 1)) w2) := Lib.hid (by
          have h := S1.out.on hb2
          obtain ⟨f, h1, h2⟩ := h.map
          rw [HT.out, ← List.append_assoc]
          exact ⟨⟨f, h1.more (by simp), h2.skip HMY.out⟩, h.base, h.below⟩)
        clear q0 q1 q2 q3 q4 S1 hP1 HC hb2
        go_wp2_with (fail)
        have hlt := HLT.out
        refine ⟨⟨j + 1, by go_num, by omega, S2.out⟩, by simp [intOf]; omega⟩
    · obtain rfl : j = ps.length := by omega
      have HS : Hid (MgAt w0 b (done ++ ps) wr) := Lib.hid (by rw [List.take_length] at hS; exact hS)
      clear hS hlt hj
      go_wp2_with (fail)
      exact HQ.out _ _ _ _ _ _ _ _ _ _ _ _ _ _ _ _ _ _ _ _ _ _ _ _ _ _ _ _ _ _ _ _ _ _ HS
end Go.Proofs.Ythhojjdccfcicaa
