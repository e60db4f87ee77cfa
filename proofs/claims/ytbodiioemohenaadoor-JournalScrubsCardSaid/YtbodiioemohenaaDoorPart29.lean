/- Part 29 of the words that the laws share: JrEq, JrIn, JrPure. No condition of its own: each theorem says its own. -/
import Derived.Test.YtbodiioemohenaaDoorPart25
import Derived.Test.YtbodiioemohenaaDoorPart28

/- '==' on what stands ahead of a record's part: a struct of five numbers. Condition: the types are the program's. -/
namespace Go.Proofs.YtbodiioemohenaaDoor
open Go.RowKit

theorem hj_fields : Tryd.prog.underlying 75 = some (.struct (Tryd.prog.fieldsOf 75)) := by kernel_rfl
theorem hj_notstood : Tryd.prog.stoodInHeld 75 = false := by kernel_rfl
noncomputable def hjF (i : Nat) : Field := (Tryd.prog.fieldsOf 75).toList.getD i default
theorem hj_list : (Tryd.prog.fieldsOf 75).toList = [hjF 0, hjF 1, hjF 2, hjF 3, hjF 4] := by kernel_rfl
theorem hj_name0 : decide ((hjF 0).name = "_") = false ∧ (hjF 0).type = 49 ∧ (hjF 0).offset = 0 := ⟨by kernel_rfl, by kernel_rfl, by kernel_rfl⟩
theorem hj_name1 : decide ((hjF 1).name = "_") = false ∧ (hjF 1).type = 3 ∧ (hjF 1).offset = 1 := ⟨by kernel_rfl, by kernel_rfl, by kernel_rfl⟩
theorem hj_name2 : decide ((hjF 2).name = "_") = false ∧ (hjF 2).type = 3 ∧ (hjF 2).offset = 2 := ⟨by kernel_rfl, by kernel_rfl, by kernel_rfl⟩
theorem hj_name3 : decide ((hjF 3).name = "_") = false ∧ (hjF 3).type = 3 ∧ (hjF 3).offset = 3 := ⟨by kernel_rfl, by kernel_rfl, by kernel_rfl⟩
theorem hj_name4 : decide ((hjF 4).name = "_") = false ∧ (hjF 4).type = 3 ∧ (hjF 4).offset = 4 := ⟨by kernel_rfl, by kernel_rfl, by kernel_rfl⟩
theorem run_equal_hj (h g : Hj) (b : Bool) (hb : b = true ↔ h = g) (W : World) : (Op.equalIn 10000 75 (.agg h.v.toArray) (.agg g.v.toArray)).run Tryd.prog W = .ok b W := by
  obtain ⟨n, u, i, c, l⟩ := h
  obtain ⟨n', u', i', c', l'⟩ := g
  have p0 : ∀ h : Hj, (part 49 h.v.toArray 0).run Tryd.prog W = .ok (.int .u64 (h.n : Int)) W := fun h => by simp [part, isAgg, run_underlying Tryd.underlying49, Hj.v]
  have p1 : ∀ h : Hj, (part 3 h.v.toArray 1).run Tryd.prog W = .ok (.int .i64 (h.u : Int)) W := fun h => by simp [part, isAgg, run_underlying Tryd.underlying3, Hj.v]
  have p2 : ∀ h : Hj, (part 3 h.v.toArray 2).run Tryd.prog W = .ok (.int .i64 (h.i : Int)) W := fun h => by simp [part, isAgg, run_underlying Tryd.underlying3, Hj.v]
  have p3 : ∀ h : Hj, (part 3 h.v.toArray 3).run Tryd.prog W = .ok (.int .i64 (h.c : Int)) W := fun h => by simp [part, isAgg, run_underlying Tryd.underlying3, Hj.v]
  have p4 : ∀ h : Hj, (part 3 h.v.toArray 4).run Tryd.prog W = .ok (.int .i64 (h.l : Int)) W := fun h => by simp [part, isAgg, run_underlying Tryd.underlying3, Hj.v]
  have he : b = true ↔ (n = n' ∧ u = u' ∧ i = i' ∧ c = c' ∧ l = l') := by
    rw [hb]
    constructor
    · intro h
      injection h with h1 h2 h3 h4 h5
      exact ⟨h1, h2, h3, h4, h5⟩
    · rintro ⟨rfl, rfl, rfl, rfl, rfl⟩
      rfl
  have ht : (n = n' ∧ u = u' ∧ i = i' ∧ c = c' ∧ l = l') → b = true := he.2
  have hf : ¬ (n = n' ∧ u = u' ∧ i = i' ∧ c = c' ∧ l = l') → b = false := fun h => by
    cases b with
    | true => exact absurd (he.1 rfl) h
    | false => rfl
  rw [run_equalIn_agg W 9999 75 _ _ hj_fields hj_notstood, hj_list]
  rw [hd_field 9998 _ _ _ _ hj_name0 .u64 n n' Tryd.underlying49 (p0 _) (p0 _)]
  rw [hd_field 9998 _ _ _ _ hj_name1 .i64 u u' Tryd.underlying3 (p1 _) (p1 _)]
  rw [hd_field 9998 _ _ _ _ hj_name2 .i64 i i' Tryd.underlying3 (p2 _) (p2 _)]
  rw [hd_field 9998 _ _ _ _ hj_name3 .i64 c c' Tryd.underlying3 (p3 _) (p3 _)]
  rw [hd_field 9998 _ _ _ _ hj_name4 .i64 l l' Tryd.underlying3 (p4 _) (p4 _)]
  by_cases h1 : n = n'
  · by_cases h2 : u = u'
    · by_cases h3 : i = i'
      · by_cases h4 : c = c'
        · by_cases h5 : l = l'
          · rw [if_pos h1, if_pos h2, if_pos h3, if_pos h4, if_pos h5, ht ⟨h1, h2, h3, h4, h5⟩]
            rfl
          · rw [if_pos h1, if_pos h2, if_pos h3, if_pos h4, if_neg h5, hf (fun h => h5 h.2.2.2.2)]
        · rw [if_pos h1, if_pos h2, if_pos h3, if_neg h4, hf (fun h => h4 h.2.2.2.1)]
      · rw [if_pos h1, if_pos h2, if_neg h3, hf (fun h => h3 h.2.2.1)]
    · rw [if_pos h1, if_neg h2, hf (fun h => h2 h.2.1)]
  · rw [if_neg h1, hf (fun h => h1 h.1)]
end Go.Proofs.YtbodiioemohenaaDoor

/- The developers' records, its inner loop: a record's parts, one behind the other. Premise: the disk's contracts. -/
namespace Go.Proofs.YtbodiioemohenaaDoor
open Go.RowKit

/-- What the sectors from a place on have behind their heads. -/
def bodyJ (S : DS) (q0 j : Nat) : List UInt8 := ((List.range j).map fun i => (sectB S.L ((q0 + i : Nat) : Int)).drop 20).flatten
theorem bodyJ_succ (S : DS) (q0 j : Nat) : bodyJ S q0 (j + 1) = bodyJ S q0 j ++ (sectB S.L ((q0 + j : Nat) : Int)).drop 20 := by
  unfold bodyJ
  rw [List.range_succ, List.map_append, List.flatten_append]
  simp
theorem bodyJ_length {S : DS} (h : DOk S) (q0 : Nat) : ∀ j, (bodyJ S q0 j).length = 108 * j
  | 0 => rfl
  | j + 1 => by
    rw [bodyJ_succ, List.length_append, bodyJ_length h q0 j, List.length_drop, sectB_len h]
    omega
/-- A slot's sector tells what it is to tell. -/
def GoodJ (S : DS) (q0 n u c l i : Nat) : Prop := okS S (q0 + i) = true ∧ hjOf (sectB S.L ((q0 + i : Nat) : Int)) = ⟨n, u, i, c, l⟩
structure JinIs (S : DS) (q0 n u c l T : Nat) (w0 : World) (j : Nat) (v : Value) (W : World) : Prop where
  good : ∀ i, i < j → GoodJ S q0 n u c l i
  told : ∃ p, Blk W T 75 (Hj.v ⟨n, u, p, c, l⟩)
  row : W.ownsRow w0.heap.size 5 1 v (108 * j) ((bodyJ S q0 j).map bv)
  chg : Chg (fun i => i = T) w0 W
def JinRel (S : DS) (q0 n u c l T : Nat) (w0 : World) (v x : Value) (W : World) : Prop := ∃ j : Nat, x = .int .i64 (j : Int) ∧ j ≤ c ∧ JinIs S q0 n u c l T w0 j v W
noncomputable def body_jin : Code := (((Tryd.f32.body.map loopsOf).getD [])[1]?).getD .skip
set_option maxRecDepth 100000 in
set_option maxHeartbeats 4000000 in
theorem jin_loop {DC : DiskW} (c1 c2 c3 c4 c5 c8 c9 c11 c12 c13 c14 c15 c16 c17 c18 c19 c20 c21 c22 c23 c24 c25 c26 c27 c28 c29 c30 c31 c32 c35 c36 c37 c38 c39 c40 c41 c42 c43 c44 c45 c46 c47 c48 c49 c50 c51 c52 c53 c54 c55 c56 c57 c58 c59 c60 c61 c62 c63 c64 c65 c66 c67 c68 c69 c70 : Value) {X D : Nat} {pp : Value} {st : JS} {S : DS} {F : Nat → Prop} (T q0 n u c l p0 : Nat) (w w0 : World) (h0 : Hid (JrAt DC w X D pp st S F)) (hw : Hid (Below w.heap.size w w0 ∧ w.heap.size ≤ T)) (hc : Hid (q0 ≤ 1024 ∧ c < 65536)) (hT : Hid (Blk w0 T 75 (Hj.v ⟨n, u, p0, c, l⟩))) {Q : Exit → Act → World → Prop}
    (HQ : Hid (∀ (u11 u12 u13 u14 u35 u36 u37 u38 u39 u40 u41 u42 u43 u44 u45 u46 u47 u48 u49 u50 u51 u52 u53 u54 u55 u56 u57 u58 v : Value) (W : World), Hid (JinIs S q0 n u c l T w0 c v W) → Q (.exit 2) ⟨List.toArray ((.pointer (some ⟨X, 0, none⟩)) :: c1 :: c2 :: c3 :: c4 :: c5 :: (.int .i64 (q0 : Int)) :: (.pointer (some ⟨T, 0, none⟩)) :: c8 :: c9 :: v :: u11 :: u12 :: u13 :: u14 :: c15 :: c16 :: c17 :: c18 :: c19 :: c20 :: c21 :: c22 :: c23 :: c24 :: c25 :: c26 :: c27 :: c28 :: c29 :: c30 :: c31 :: c32 :: (.int .i64 (c : Int)) :: (.int .i64 (c : Int)) :: u35 :: u36 :: u37 :: u38 :: u39 :: u40 :: u41 :: u42 :: u43 :: u44 :: u45 :: u46 :: u47 :: u48 :: u49 :: u50 :: u51 :: u52 :: u53 :: u54 :: u55 :: u56 :: u57 :: u58 :: c59 :: c60 :: c61 :: c62 :: c63 :: c64 :: c65 :: c66 :: c67 :: c68 :: c69 :: c70 :: []), []⟩ W))
    (HC : Hid (∀ (u10 u11 u12 u13 u14 u34 u35 u36 u37 u38 u39 u40 u41 u42 u43 u44 u45 u46 u47 u48 u49 u50 u51 u52 u53 u54 u55 u56 u57 u58 : Value) (W : World), Hid ((∃ i, i < c ∧ ¬ GoodJ S q0 n u c l i) ∧ Chg (fun i => i = T) w0 W) → Q (.exit 0) ⟨List.toArray ((.pointer (some ⟨X, 0, none⟩)) :: c1 :: c2 :: c3 :: c4 :: c5 :: (.int .i64 (q0 : Int)) :: (.pointer (some ⟨T, 0, none⟩)) :: c8 :: c9 :: u10 :: u11 :: u12 :: u13 :: u14 :: c15 :: c16 :: c17 :: c18 :: c19 :: c20 :: c21 :: c22 :: c23 :: c24 :: c25 :: c26 :: c27 :: c28 :: c29 :: c30 :: c31 :: c32 :: (.int .i64 (c : Int)) :: u34 :: u35 :: u36 :: u37 :: u38 :: u39 :: u40 :: u41 :: u42 :: u43 :: u44 :: u45 :: u46 :: u47 :: u48 :: u49 :: u50 :: u51 :: u52 :: u53 :: u54 :: u55 :: u56 :: u57 :: u58 :: c59 :: c60 :: c61 :: c62 :: c63 :: c64 :: c65 :: c66 :: c67 :: c68 :: c69 :: c70 :: []), []⟩ W)) :
    (Code.loop body_jin).wp Tryd.prog Q ⟨List.toArray ((.pointer (some ⟨X, 0, none⟩)) :: c1 :: c2 :: c3 :: c4 :: c5 :: (.int .i64 (q0 : Int)) :: (.pointer (some ⟨T, 0, none⟩)) :: c8 :: c9 :: (.slice none 0 0) :: c11 :: c12 :: c13 :: c14 :: c15 :: c16 :: c17 :: c18 :: c19 :: c20 :: c21 :: c22 :: c23 :: c24 :: c25 :: c26 :: c27 :: c28 :: c29 :: c30 :: c31 :: c32 :: (.int .i64 (c : Int)) :: (.int .i64 0) :: c35 :: c36 :: c37 :: c38 :: c39 :: c40 :: c41 :: c42 :: c43 :: c44 :: c45 :: c46 :: c47 :: c48 :: c49 :: c50 :: c51 :: c52 :: c53 :: c54 :: c55 :: c56 :: c57 :: c58 :: c59 :: c60 :: c61 :: c62 :: c63 :: c64 :: c65 :: c66 :: c67 :: c68 :: c69 :: c70 :: []), []⟩ w0 := by
  unfold body_jin
  conv => arg 2; arg 1; whnf
  go_loopw [10, 34] (fun v x wx => JinRel S q0 n u c l T w0 v x wx) (fun _ x _ => c - (intOf x).toNat)
  case atStart => exact ⟨0, rfl, Nat.zero_le _, fun i hi => by omega, ⟨p0, hT.out⟩, World.ownsRow_nil _ _ _ _, Chg.refl _ _⟩
  case round =>
    obtain ⟨j, rfl, hj, hn⟩ := hrel
    have HN := Lib.hid hn
    obtain ⟨hq0, hck⟩ := hc.out
    have cI : (c : Int) < 65536 := by omega
    by_cases hlt : j < c
    · have jI : (j : Int) < c := by omega
      have HLT := Lib.hid hlt
      obtain ⟨i0, hi0, hz0, hz1, hz2⟩ := info_parts info_u8
      have hXT : X ≠ T := by
        have h1 := h0.out.pr.lt
        have h2 := hw.out.2
        omega
      have A0 : JrAt DC wr X D pp st S F := (h0.out.on hw.out.1).chg hn.chg hXT fun i hi e => by
        have h1 := DC.lt h0.out.dk i hi
        have h2 := hw.out.2
        omega
      have HA := Lib.hid A0
      obtain ⟨q, hq⟩ : ∃ q, q = q0 + j := ⟨_, rfl⟩
      have e1 : IntKind.i64.wrap ((q0 : Int) + (j : Int)) = (q : Int) := by rw [IntWalk.i64_in _ (by omega), hq]; omega
      obtain ⟨t, ht⟩ : ∃ t, okS S q = t := ⟨_, rfl⟩
      obtain ⟨g, hg⟩ : ∃ g, g = if t then hjOf (sectB S.L (q : Int)) else hj0 := ⟨_, rfl⟩
      have HRD : Hid (Calls Tryd.prog 46 #[.pointer (some ⟨X, 0, none⟩), .int .i64 (q : Int)] wr fun e w' => ∃ u, e = .returned (.tuple #[.agg g.v.toArray, u, .bool t]) ∧ (t = true → Rd w' u ((sectB S.L (q : Int)).drop 20) ∧ ∀ j, u.ownBlock = some j → wr.heap.size ≤ j) ∧ Below wr.heap.size wr w') := Lib.hid (jRead_any A0 q (by omega) t ht g hg)
      have HTG : Hid (okS S q = t ∧ (g = if t then hjOf (sectB S.L (q : Int)) else hj0)) := Lib.hid ⟨ht, hg⟩
      have HQ0 := Lib.hid hq
      have HZ : Hid (g.v.length = 5) := Lib.hid rfl
      have HZ0 : Hid (hj0.v.length = 5) := Lib.hid rfl
      clear hn hlt hj hck hq0 A0 hq ht hg
      go_wp2_with (fail)
      refine HRD.out.mono ?_
      rintro e w2 ⟨u1, rfl, ru, b2⟩
      have R2 := Lib.hid ru
      have B2 := Lib.hid b2
      obtain ⟨C, hC⟩ : ∃ C, w2.heap.size = C := ⟨_, rfl⟩
      have HC2 := Lib.hid hC
      clear ru b2 hC
      obtain ⟨p, hp⟩ := HN.out.told
      have T2 := Lib.hid (hp.below B2.out hp.lt)
      have HTC : Hid (T < C) := Lib.hid (by rw [← HC2.out]; exact T2.out.lt)
      clear hp
      go_upto_region 10 with (first
        | (with_reducible refine here_alloc ?_
           refine wpList_alloc_w rfl 75 rfl hj0.v hj_zero C HC2.out ?_
           intro w4 k4 b4 z4
           have K4 := Lib.hid k4
           have B4 := Lib.hid b4
           clear k4 b4 z4)
        | (with_reducible refine here_store ?_
           refine wpList_store_blk rfl 75 _ _ rfl C 75 _ K4.out g.v rfl rfl (by rw [HZ.out, HZ0.out]) (by rw [HZ.out]; exact hj_info) (hj_one _) ?_
           intro w5 k5 s5
           have K5 := Lib.hid k5
           have B5 := Lib.hid (B4.out.trans s5.below)
           clear k5 s5 K4 B4))
      have T5 := Lib.hid (T2.out.below B5.out HTC.out)
      have c1 : w5.cell? ⟨T, 2, none⟩ = some (.int .i64 (p : Int)) := by rw [T5.out.cell]; rfl
      have f1 : w5.frozen? ⟨T, 2, none⟩ = false := T5.out.free 2
      obtain ⟨w6, hw6⟩ : ∃ W : World, W = w5.setCell ⟨T, 2, none⟩ (.int .i64 (j : Int)) := ⟨_, rfl⟩
      have T6 : Hid (Blk w6 T 75 (Hj.v ⟨n, u, j, c, l⟩)) := Lib.hid (by rw [hw6]; exact T5.out.set 2 (.int .i64 (j : Int)))
      have S6 : Hid (Sole w5 w6 T) := Lib.hid (by rw [hw6]; exact Sole.setCell _ _ _ _)
      have K6 := Lib.hid (S6.out.blk K5.out (Nat.ne_of_gt HTC.out))
      go_upto_region 11 with (fail)
      rw [← hw6]
      clear hw6 c1 f1 T5 T2 K5
      have HG6 : Hid (Chg (fun i => i = T) w0 w6) := Lib.hid (chg_join (chg_join HN.out.chg (chg_below (B2.out.trans (B5.out.mono (by rw [← HC2.out]; exact B2.out.size))))) (sole_only S6.out))
      cases t with
      | false =>
        have HB : Hid ((∃ i, i < c ∧ ¬ GoodJ S q0 n u c l i) ∧ Chg (fun i => i = T) w0 w6) := Lib.hid ⟨⟨j, HLT.out, fun h => by
          have h1 := h.1
          rw [← HQ0.out, HTG.out.1] at h1
          cases h1⟩, HG6.out⟩
        go_wp2_with (fail)
        exact HC.out _ _ _ _ _ _ _ _ _ _ _ _ _ _ _ _ _ _ _ _ _ _ _ _ _ _ _ _ _ _ _ HB
      | true =>
        by_cases he : g = ⟨n, u, j, c, l⟩
        · have hEQ : ∀ W, (Op.equalIn 10000 75 (.agg g.v.toArray) (.agg (Hj.v ⟨n, u, j, c, l⟩).toArray)).run Tryd.prog W = .ok true W := run_equal_hj _ _ true ⟨fun _ => he, fun _ => rfl⟩
          obtain ⟨hv, hhv⟩ : ∃ hv, hv = Hj.v ⟨n, u, j, c, l⟩ := ⟨_, rfl⟩
          have HHV := Lib.hid hhv
          have HHL : Hid (hv.length = 5) := Lib.hid (by rw [hhv]; rfl)
          rw [← hhv] at hEQ T6
          have HGD : Hid (GoodJ S q0 n u c l j) := Lib.hid (by
            have h1 := HTG.out
            rw [HQ0.out] at h1
            exact ⟨h1.1, h1.2.symm.trans he⟩)
          have hru := R2.out rfl
          have RU : Hid (Rd w6 u1 ((sectB S.L (q : Int)).drop 20)) := Lib.hid (chg_rd0 (sole_only S6.out) (hru.1.below (HC2.out.symm ▸ B5.out)) fun _ i hi e => by
            have h1 := hru.2 i hi
            have h2 := (HN.out.told).choose_spec.lt
            have h3 := HA.out.pr.lt
            have e2 : i = T := e
            omega)
          have HRW := Lib.hid HN.out.row
          have HLQ : Hid (((sectB S.L (q : Int)).drop 20).length = 108) := Lib.hid (by rw [List.length_drop, sectB_len (DC.good HA.out.dk)])
          have R6 : Hid (w6.ownsRow w0.heap.size 5 1 u10 (108 * j) ((bodyJ S q0 j).map bv)) := Lib.hid (by
            have h5 : Below wr.heap.size wr w5 := B2.out.trans (B5.out.mono (by rw [← HC2.out]; exact B2.out.size))
            refine own_sole (own_lain HRW.out h5) S6.out fun e => ?_
            have h6 := (HRW.out.lt _ e).1
            have h7 := hT.out.lt
            omega)
          have HSZ : Hid (w0.heap.size ≤ w6.heap.size) := Lib.hid HG6.out.size
          have HJ : Hid (108 * j + 108 ≤ 140737488355328) := Lib.hid (by have := HLT.out; have := hc.out.2; omega)
          clear he hhv hru
          go_wp2_with (first
            | (with_reducible refine here_load ?_
               refine wpList_load_blk_g 75 (.tmp 12) rfl (by rfl) C rfl 75 g.v _ K6.out Tryd.underlying75 rfl (by rw [HZ.out]; exact hj_info) ?_)
            | (with_reducible refine here_load ?_
               refine wpList_load_blk_g 75 (.tmp 7) rfl (by rfl) T rfl 75 hv _ T6.out Tryd.underlying75 rfl (by rw [HHL.out]; exact hj_info) ?_)
            | (at_builtin
               refine wpList_append_rd _ rfl (.tmp 55) (.tmp 56) _ rfl w0.heap.size 5 i0 _ Tryd.underlying23 hi0 hz0 hz1 hz2 rfl _ _ _ rfl R6.out _ ((sectB S.L (q : Int)).drop 20) rfl RU.out (by rw [HLQ.out]; exact HJ.out) HSZ.out ?_
               intro v7 w7 own7 g7
               have O7 := Lib.hid own7
               have G7 := Lib.hid g7
               clear own7 g7))
          go_roundw
          case rel =>
            have hle := HLT.out
            have hT2 := hT.out.lt
            have hn8 : u10.ownBlock ≠ some T := fun e => by
              have h6 := (HRW.out.lt _ e).1
              omega
            refine ⟨j + 1, by go_num, by omega, fun i hi => ?_, ⟨j, ?_⟩, ?_, ?_⟩
            · by_cases e : i = j
              · subst e
                exact HGD.out
              · exact HN.out.good i (by omega)
            · rw [← HHV.out]
              exact T6.out.grew G7.out hn8
            · rw [bodyJ_succ, ← HQ0.out, List.map_append, show 108 * (j + 1) = 108 * j + ((sectB S.L (q : Int)).drop 20).length by rw [HLQ.out]; omega]
              exact O7.out
            · have g7 := G7.out
              refine HG6.out.trans (⟨g7.os, g7.tape, g7.output, g7.size, fun i hi hni => g7.block i hi fun e => hni (.inr ?_)⟩ : Chg _ w6 w7)
              exact (HRW.out.lt i e.symm).1
          case measure => simp [intOf]; omega
        · have hEQ : ∀ W, (Op.equalIn 10000 75 (.agg g.v.toArray) (.agg (Hj.v ⟨n, u, j, c, l⟩).toArray)).run Tryd.prog W = .ok false W := run_equal_hj _ _ false ⟨fun h => (by cases h), fun h => absurd h he⟩
          obtain ⟨hv, hhv⟩ : ∃ hv, hv = Hj.v ⟨n, u, j, c, l⟩ := ⟨_, rfl⟩
          have HHL : Hid (hv.length = 5) := Lib.hid (by rw [hhv]; rfl)
          rw [← hhv] at hEQ T6
          have HB : Hid ((∃ i, i < c ∧ ¬ GoodJ S q0 n u c l i) ∧ Chg (fun i => i = T) w0 w6) := Lib.hid ⟨⟨j, HLT.out, fun h => by
            have h1 := h.2
            rw [← HQ0.out] at h1
            exact he (HTG.out.2.trans h1)⟩, HG6.out⟩
          clear he hhv
          go_wp2_with (first
            | (with_reducible refine here_load ?_
               refine wpList_load_blk_g 75 (.tmp 12) rfl (by rfl) C rfl 75 g.v _ K6.out Tryd.underlying75 rfl (by rw [HZ.out]; exact hj_info) ?_)
            | (with_reducible refine here_load ?_
               refine wpList_load_blk_g 75 (.tmp 7) rfl (by rfl) T rfl 75 hv _ T6.out Tryd.underlying75 rfl (by rw [HHL.out]; exact hj_info) ?_))
          exact HC.out _ _ _ _ _ _ _ _ _ _ _ _ _ _ _ _ _ _ _ _ _ _ _ _ _ _ _ _ _ _ _ HB
    · obtain rfl : j = c := by omega
      clear hj hlt hn
      go_wp2_with (fail)
      exact HQ.out _ _ _ _ _ _ _ _ _ _ _ _ _ _ _ _ _ _ _ _ _ _ _ _ _ _ _ _ _ _ HN
end Go.Proofs.YtbodiioemohenaaDoor

/- When a record stands, told by what its sectors' heads are read as. No program in sight. Condition: the disk is as a disk is. -/
namespace Go.Proofs.YtbodiioemohenaaDoor
open Go.RowKit

/-- A sector's first bytes, out of what they are read as. -/
theorem hj_take {x : List UInt8} (h : 20 ≤ x.length) : x.take 20 = hdrR (hjOf x).n (hjOf x).u (hjOf x).i (hjOf x).c (hjOf x).l := by
  have e1 : leB 8 (hjOf x).n = x.take 8 := leB_numB 8 _ (by rw [List.length_take]; omega)
  have e2 : leB 4 (hjOf x).u = (x.drop 8).take 4 := leB_numB 4 _ (by rw [List.length_take, List.length_drop]; omega)
  have e3 : leB 2 (hjOf x).i = (x.drop 12).take 2 := leB_numB 2 _ (by rw [List.length_take, List.length_drop]; omega)
  have e4 : leB 2 (hjOf x).c = (x.drop 14).take 2 := leB_numB 2 _ (by rw [List.length_take, List.length_drop]; omega)
  have e5 : leB 4 (hjOf x).l = (x.drop 16).take 4 := leB_numB 4 _ (by rw [List.length_take, List.length_drop]; omega)
  unfold hdrR
  rw [e1, e2, e3, e4, e5, ← take_add' x 8 4, ← take_add' x 12 2, ← take_add' x 14 2, ← take_add' x 16 4]
theorem hj_of_take {x : List UInt8} {n u i c l : Nat} (h : x.take 20 = hdrR n u i c l) (hn : n < 256 ^ 8) (hu : u < 256 ^ 4) (hi : i < 256 ^ 2) (hc : c < 256 ^ 2) (hl : l < 256 ^ 4) : hjOf x = ⟨n, u, i, c, l⟩ := by
  have p : ∀ m k, m + k ≤ 20 → (x.drop m).take k = ((hdrR n u i c l).drop m).take k := fun m k hmk => by
    rw [← h, List.drop_take, List.take_take, Nat.min_eq_left (by omega)]
  have q : x.take 8 = (hdrR n u i c l).take 8 := by
    rw [← h, List.take_take]
    rfl
  unfold hjOf
  rw [q, p 8 4 (by decide), p 12 2 (by decide), p 14 2 (by decide), p 16 4 (by decide)]
  have e1 : (hdrR n u i c l).take 8 = leB 8 n := by
    unfold hdrR
    rw [List.append_assoc, List.append_assoc, List.append_assoc, List.take_append_of_le_length (by rw [leB_length]; omega), List.take_of_length_le (by rw [leB_length]; omega)]
  have e2 : ((hdrR n u i c l).drop 8).take 4 = leB 4 u := by
    unfold hdrR
    rw [List.append_assoc, List.append_assoc, List.append_assoc, List.drop_left' (leB_length _ _), List.take_append_of_le_length (by rw [leB_length]; omega), List.take_of_length_le (by rw [leB_length]; omega)]
  have e3 : ((hdrR n u i c l).drop 12).take 2 = leB 2 i := by
    unfold hdrR
    rw [List.append_assoc, List.append_assoc, List.drop_left' (by simp [leB_length]), List.take_append_of_le_length (by rw [leB_length]; omega), List.take_of_length_le (by rw [leB_length]; omega)]
  have e4 : ((hdrR n u i c l).drop 14).take 2 = leB 2 c := by
    unfold hdrR
    rw [List.append_assoc, List.drop_left' (by simp [leB_length]), List.take_append_of_le_length (by rw [leB_length]; omega), List.take_of_length_le (by rw [leB_length]; omega)]
  have e5 : ((hdrR n u i c l).drop 16).take 4 = leB 4 l := by
    unfold hdrR
    rw [List.drop_left' (by simp [leB_length]), List.take_of_length_le (by rw [leB_length]; omega)]
  rw [e1, e2, e3, e4, e5, numB_le 8 n hn, numB_le 4 u hu, numB_le 2 i hi, numB_le 2 c hc, numB_le 4 l hl]
theorem okS_lt {S : DS} {q : Nat} (h : okS S q = true) : q < 1024 := by
  unfold okS at h
  rw [Bool.and_eq_true, decide_eq_true_eq] at h
  exact h.1
theorem okS_sect {S : DS} {q : Nat} (h : okS S q = true) : sectW S.L (q : Int) = true := by
  unfold okS at h
  rw [Bool.and_eq_true] at h
  exact h.2
theorem okS_of {S : DS} {q : Nat} (h1 : q < 1024) (h2 : sectW S.L (q : Int) = true) : okS S q = true := by
  unfold okS
  rw [decide_eq_true h1, h2]
  rfl
theorem view_ok {S : DS} {q : Nat} (h : okS S q = true) : viewS S 0 q = some (sectB S.L (q : Int)) := by
  refine view_some.2 ?_
  rw [Nat.zero_add]
  exact ⟨okS_sect h, rfl⟩
/-- What a record's sectors tell, if it stands. -/
theorem rec_good {S : DS} {n u p : Nat} {b : List UInt8} (hu : u < 256 ^ 4) (h : RecAt (viewS S 0) n u p b) : ∀ i, i < cntR b.length → GoodJ S p n u (cntR b.length) b.length i := fun i hi => by
  obtain ⟨x, hx, ht⟩ := h.head i hi
  have hr := h.room
  obtain ⟨h1, h2⟩ := view_some.1 hx
  rw [Nat.zero_add] at h1 h2
  refine ⟨okS_of (by omega) h1, ?_⟩
  rw [h2]
  exact hj_of_take ht h.nn hu (by omega) (by omega) h.ll
theorem bodyR_bodyJ {S : DS} {p c : Nat} (h : ∀ i, i < c → okS S (p + i) = true) : bodyR (viewS S 0) p c = bodyJ S p c := by
  unfold bodyR bodyJ
  congr 1
  apply List.map_congr_left
  intro i hi
  rw [view_ok (h i (List.mem_range.1 hi))]
  rfl
theorem rec_yes {S : DS} (ho : DOk S) {n u p c l : Nat} (hc : c = cntR l) (hg : ∀ i, i < c → GoodJ S p n u c l i) : RecAt (viewS S 0) n u p ((bodyJ S p c).take l) := by
  have hb : ((bodyJ S p c).take l).length = l := by
    have h1 := cntR_ge l
    rw [List.length_take, bodyJ_length ho]
    omega
  have hp := cntR_pos l
  have h0 := hg 0 (by omega)
  have hn : n < 256 ^ 8 := by
    have h1 := numB_take_lt (sectB S.L ((p + 0 : Nat) : Int)) 8
    have h2 : (hjOf (sectB S.L ((p + 0 : Nat) : Int))).n = n := by rw [h0.2]
    rw [← h2]
    exact h1
  have hl : l < 256 ^ 4 := by
    have h1 := numB_take_lt ((sectB S.L ((p + 0 : Nat) : Int)).drop 16) 4
    have h2 : (hjOf (sectB S.L ((p + 0 : Nat) : Int))).l = l := by rw [h0.2]
    rw [← h2]
    exact h1
  have hz := okS_lt (hg (c - 1) (by omega)).1
  refine ⟨by rw [hb]; omega, hn, by rw [hb]; exact hl, fun i hi => ?_, ?_⟩
  · rw [hb, ← hc] at hi
    refine ⟨_, view_ok (hg i hi).1, ?_⟩
    have h3 := hj_take (x := sectB S.L ((p + i : Nat) : Int)) (by rw [sectB_len ho]; decide)
    rw [(hg i hi).2] at h3
    rw [h3, hb, ← hc]
  · rw [hb, ← hc, bodyR_bodyJ fun i hi => (hg i hi).1]
theorem hj_eta (h : Hj) : h = ⟨h.n, h.u, h.i, h.c, h.l⟩ := rfl
/-- No record stands where the first sector doesn't begin one. -/
theorem rec_no_first {S : DS} {n u p : Nat} {g : Hj} (hu : u < 256 ^ 4) (t : Bool) (ht : okS S p = t) (hg : g = if t then hjOf (sectB S.L (p : Int)) else hj0) (hb : t = false ∨ beginsB g n u = false) (b : List UInt8) : ¬ RecAt (viewS S 0) n u p b := fun h => by
  have h1 := rec_good hu h 0 (cntR_pos _)
  have h2 : okS S p = true := h1.1
  have h3 : hjOf (sectB S.L (p : Int)) = ⟨n, u, 0, cntR b.length, b.length⟩ := h1.2
  rw [ht] at h2
  subst h2
  rw [if_pos rfl, h3] at hg
  rcases hb with hb | hb
  · cases hb
  · rw [hg] at hb
    unfold beginsB at hb
    simp at hb
/-- Nor where a sector behind it doesn't go on. -/
theorem rec_no_part {S : DS} {n u p c l i' : Nat} (hu : u < 256 ^ 4) (hg : hjOf (sectB S.L (p : Int)) = ⟨n, u, i', c, l⟩) (hb : ∃ i, i < c ∧ ¬ GoodJ S p n u c l i) (b : List UInt8) : ¬ RecAt (viewS S 0) n u p b := fun h => by
  have h1 := rec_good hu h
  have h3 : hjOf (sectB S.L (p : Int)) = ⟨n, u, 0, cntR b.length, b.length⟩ := (h1 0 (cntR_pos _)).2
  rw [hg] at h3
  injection h3 with _ _ _ h4 h5
  obtain ⟨i, hi, hn⟩ := hb
  rw [h4] at hi
  rw [h4, h5] at hn
  exact hn (h1 i hi)
theorem recs_none {V : View} {n u p : Nat} {rs : List (List UInt8)} (h : Recs V n u p rs) (hn : ∀ b, ¬ RecAt V n u p b) : rs = [] := by
  cases rs with
  | nil => rfl
  | cons r rs => exact absurd h.1.1 (hn r)
theorem recs_some {V : View} {n u p : Nat} {rs : List (List UInt8)} {b : List UInt8} (h : Recs V n u p rs) (hb : RecAt V n u p b) : ∃ qs, rs = b :: qs ∧ Recs V n (u + 1) (p + cntR b.length) qs := by
  cases rs with
  | nil => exact absurd hb (h.2 b)
  | cons r rs =>
    obtain rfl := h.1.1.one hb
    exact ⟨rs, rfl, h.1.2, fun c hc => h.2 c (by rw [List.length_cons, show u + (rs.length + 1) = u + 1 + rs.length by omega]; exact hc)⟩
end Go.Proofs.YtbodiioemohenaaDoor
