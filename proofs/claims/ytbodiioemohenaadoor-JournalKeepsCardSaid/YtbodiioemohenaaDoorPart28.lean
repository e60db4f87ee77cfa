/- Part 28 of the words that the laws share: HdEq, SlNin, SlPure. No condition of its own: each theorem says its own. -/
import Derived.Test.YtbodiioemohenaaDoorPart24
import Derived.Test.YtbodiioemohenaaDoorPart9
import Derived.Test.YtbodiioemohenaaDoorPart2
import Derived.Laws.StructEq

/- '==' on what stands ahead of a part: a struct of five numbers. Condition: the types are the program's. -/
namespace Go.Proofs.YtbodiioemohenaaDoor
open Go.RowKit

theorem hd_fields : Tryd.prog.underlying 98 = some (.struct (Tryd.prog.fieldsOf 98)) := by kernel_rfl
theorem hd_notstood : Tryd.prog.stoodInHeld 98 = false := by kernel_rfl
noncomputable def hdF (i : Nat) : Field := (Tryd.prog.fieldsOf 98).toList.getD i default
theorem hd_list : (Tryd.prog.fieldsOf 98).toList = [hdF 0, hdF 1, hdF 2, hdF 3, hdF 4] := by kernel_rfl
theorem hd_name0 : decide ((hdF 0).name = "_") = false ∧ (hdF 0).type = 49 ∧ (hdF 0).offset = 0 := ⟨by kernel_rfl, by kernel_rfl, by kernel_rfl⟩
theorem hd_name1 : decide ((hdF 1).name = "_") = false ∧ (hdF 1).type = 3 ∧ (hdF 1).offset = 1 := ⟨by kernel_rfl, by kernel_rfl, by kernel_rfl⟩
theorem hd_name2 : decide ((hdF 2).name = "_") = false ∧ (hdF 2).type = 3 ∧ (hdF 2).offset = 2 := ⟨by kernel_rfl, by kernel_rfl, by kernel_rfl⟩
theorem hd_name3 : decide ((hdF 3).name = "_") = false ∧ (hdF 3).type = 3 ∧ (hdF 3).offset = 3 := ⟨by kernel_rfl, by kernel_rfl, by kernel_rfl⟩
theorem hd_name4 : decide ((hdF 4).name = "_") = false ∧ (hdF 4).type = 49 ∧ (hdF 4).offset = 4 := ⟨by kernel_rfl, by kernel_rfl, by kernel_rfl⟩
theorem hd_field {P : Program} (d : Nat) (xs ys : Array Value) (f : Field) (fs : List Field) {t o : Nat} (hf : decide (f.name = "_") = false ∧ f.type = t ∧ f.offset = o) {W : World} (k : IntKind) (m n : Nat) (hu : P.underlying t = some (.int k))
    (h1 : (part t xs o).run P W = .ok (.int k (m : Int)) W) (h2 : (part t ys o).run P W = .ok (.int k (n : Int)) W) :
    (Op.eqFields (d + 1) xs ys (f :: fs)).run P W = if m = n then (Op.eqFields (d + 1) xs ys fs).run P W else .ok false W := by
  obtain ⟨h3, rfl, rfl⟩ := hf
  have hn : f.name ≠ "_" := of_decide_eq_false h3
  have he := run_equalIn_int W d f.type k k (m : Int) (n : Int) hu
  rw [Op.eqFields, if_pos hn]
  by_cases e : m = n
  · rw [if_pos e]
    subst e
    rw [beq_self_eq_true] at he
    simp [h1, h2, he]
  · rw [if_neg e]
    rw [show ((m : Int) == (n : Int)) = false by rw [beq_eq_false_iff_ne]; omega] at he
    simp [h1, h2, he]
theorem run_equal_hd (h g : Hd) (b : Bool) (hb : b = true ↔ h = g) (W : World) : (Op.equalIn 10000 98 (.agg h.v.toArray) (.agg g.v.toArray)).run Tryd.prog W = .ok b W := by
  obtain ⟨n, i, c, l, s⟩ := h
  obtain ⟨n', i', c', l', s'⟩ := g
  have p0 : ∀ h : Hd, (part 49 h.v.toArray 0).run Tryd.prog W = .ok (.int .u64 (h.n : Int)) W := fun h => by simp [part, isAgg, run_underlying Tryd.underlying49, Hd.v]
  have p1 : ∀ h : Hd, (part 3 h.v.toArray 1).run Tryd.prog W = .ok (.int .i64 (h.i : Int)) W := fun h => by simp [part, isAgg, run_underlying Tryd.underlying3, Hd.v]
  have p2 : ∀ h : Hd, (part 3 h.v.toArray 2).run Tryd.prog W = .ok (.int .i64 (h.c : Int)) W := fun h => by simp [part, isAgg, run_underlying Tryd.underlying3, Hd.v]
  have p3 : ∀ h : Hd, (part 3 h.v.toArray 3).run Tryd.prog W = .ok (.int .i64 (h.l : Int)) W := fun h => by simp [part, isAgg, run_underlying Tryd.underlying3, Hd.v]
  have p4 : ∀ h : Hd, (part 49 h.v.toArray 4).run Tryd.prog W = .ok (.int .u64 (h.s : Int)) W := fun h => by simp [part, isAgg, run_underlying Tryd.underlying49, Hd.v]
  have he : b = true ↔ (n = n' ∧ i = i' ∧ c = c' ∧ l = l' ∧ s = s') := by
    rw [hb]
    constructor
    · intro h
      injection h with h1 h2 h3 h4 h5
      exact ⟨h1, h2, h3, h4, h5⟩
    · rintro ⟨rfl, rfl, rfl, rfl, rfl⟩
      rfl
  have ht : (n = n' ∧ i = i' ∧ c = c' ∧ l = l' ∧ s = s') → b = true := he.2
  have hf : ¬ (n = n' ∧ i = i' ∧ c = c' ∧ l = l' ∧ s = s') → b = false := fun h => by
    cases b with
    | true => exact absurd (he.1 rfl) h
    | false => rfl
  rw [run_equalIn_agg W 9999 98 _ _ hd_fields hd_notstood, hd_list]
  rw [hd_field 9998 _ _ _ _ hd_name0 .u64 n n' Tryd.underlying49 (p0 _) (p0 _)]
  rw [hd_field 9998 _ _ _ _ hd_name1 .i64 i i' Tryd.underlying3 (p1 _) (p1 _)]
  rw [hd_field 9998 _ _ _ _ hd_name2 .i64 c c' Tryd.underlying3 (p2 _) (p2 _)]
  rw [hd_field 9998 _ _ _ _ hd_name3 .i64 l l' Tryd.underlying3 (p3 _) (p3 _)]
  rw [hd_field 9998 _ _ _ _ hd_name4 .u64 s s' Tryd.underlying49 (p4 _) (p4 _)]
  by_cases h1 : n = n'
  · by_cases h2 : i = i'
    · by_cases h3 : c = c'
      · by_cases h4 : l = l'
        · by_cases h5 : s = s'
          · rw [if_pos h1, if_pos h2, if_pos h3, if_pos h4, if_pos h5, ht ⟨h1, h2, h3, h4, h5⟩]
            rfl
          · rw [if_pos h1, if_pos h2, if_pos h3, if_pos h4, if_neg h5, hf (fun h => h5 h.2.2.2.2)]
        · rw [if_pos h1, if_pos h2, if_pos h3, if_neg h4, hf (fun h => h4 h.2.2.2.1)]
      · rw [if_pos h1, if_pos h2, if_neg h3, hf (fun h => h3 h.2.2.1)]
    · rw [if_pos h1, if_neg h2, hf (fun h => h2 h.2.1)]
  · rw [if_neg h1, hf (fun h => h1 h.1)]
end Go.Proofs.YtbodiioemohenaaDoor

/- The developers' newest, its inner loop: a slot's parts, one behind the other. Premise: the disk's contracts. -/
namespace Go.Proofs.YtbodiioemohenaaDoor
open Go.RowKit

theorem SlAt.chg {DC : DiskW} {w w' : World} {X a k D : Nat} {S : DS} {F G : Nat → Prop} (h : SlAt DC w X a k D S F) (hc : Chg G w w') (hX : ¬ G X) (hF : ∀ j, F j → ¬ G j) : SlAt DC w' X a k D S F :=
  ⟨hc.blk h.pr hX, DC.other h.dk hc hF, h.ap, h.k1, h.room⟩
/-- What the sectors from a place on have behind their heads. -/
def bodyQ (S : DS) (q0 j : Nat) : List UInt8 := ((List.range j).map fun i => (sectB S.L ((q0 + i : Nat) : Int)).drop 24).flatten
theorem bodyQ_succ (S : DS) (q0 j : Nat) : bodyQ S q0 (j + 1) = bodyQ S q0 j ++ (sectB S.L ((q0 + j : Nat) : Int)).drop 24 := by
  unfold bodyQ
  rw [List.range_succ, List.map_append, List.flatten_append]
  simp
theorem bodyQ_length {S : DS} (h : DOk S) (q0 : Nat) : ∀ j, (bodyQ S q0 j).length = 104 * j
  | 0 => rfl
  | j + 1 => by
    rw [bodyQ_succ, List.length_append, bodyQ_length h q0 j, List.length_drop, sectB_len h]
    omega
/-- A slot's sector tells what it is to tell. -/
def GoodQ (S : DS) (q0 n c l s i : Nat) : Prop := sectW S.L ((q0 + i : Nat) : Int) = true ∧ hdOf (sectB S.L ((q0 + i : Nat) : Int)) = ⟨n, i, c, l, s⟩
structure NinIs (S : DS) (q0 n c l s T : Nat) (w0 : World) (j : Nat) (v : Value) (W : World) : Prop where
  good : ∀ i, i < j → GoodQ S q0 n c l s i
  told : ∃ p, Blk W T 98 (Hd.v ⟨n, p, c, l, s⟩)
  row : W.ownsRow w0.heap.size 5 1 v (104 * j) ((bodyQ S q0 j).map bv)
  chg : Chg (fun i => i = T) w0 W
def NinRel (S : DS) (q0 n c l s T : Nat) (w0 : World) (v x : Value) (W : World) : Prop := ∃ j : Nat, x = .int .i64 (j : Int) ∧ j ≤ c ∧ NinIs S q0 n c l s T w0 j v W
noncomputable def body_nin : Code := (((Tryd.f45.body.map loopsOf).getD [])[1]?).getD .skip
set_option maxRecDepth 100000 in
set_option maxHeartbeats 4000000 in
theorem nin_loop {DC : DiskW} (c1 c2 c3 c6 c7 c9 c10 c11 c12 c13 c14 c15 c16 c17 c18 c19 c20 c21 c22 c23 c24 c25 c26 c27 c28 c29 c30 c31 c32 c33 c34 c35 c36 c39 c40 c41 c42 c43 c44 c45 c46 c47 c48 c49 c50 c51 c52 c53 c54 c55 c56 c57 c58 c59 c60 c61 c62 c63 c64 c65 c66 c67 c68 c69 c70 c71 c72 c73 c74 c75 c76 c77 c78 c79 c80 c81 c82 c83 c84 c85 c86 c87 c88 c89 c90 c91 : Value) {X a k D : Nat} {S : DS} {F : Nat → Prop} (T q0 n c l s p0 sl : Nat) (w w0 : World) (h0 : Hid (SlAt DC w X a k D S F)) (hw : Hid (Below w.heap.size w w0 ∧ w.heap.size ≤ T)) (hc : Hid (c ≤ k ∧ sl ≤ 1 ∧ q0 = a + sl * k)) (hT : Hid (Blk w0 T 98 (Hd.v ⟨n, p0, c, l, s⟩))) {Q : Exit → Act → World → Prop}
    (HQ : Hid (∀ (u9 u10 u11 u12 u39 u40 u41 u42 u43 u44 u45 u46 u47 u48 u49 u50 u51 u52 u53 u54 u55 u56 u57 u58 u59 u60 u61 u62 u63 v : Value) (W : World), Hid (NinIs S q0 n c l s T w0 c v W) → Q (.exit 2) ⟨List.toArray ((.pointer (some ⟨X, 0, none⟩)) :: c1 :: c2 :: c3 :: (.int .i64 (sl : Int)) :: (.pointer (some ⟨T, 0, none⟩)) :: c6 :: c7 :: v :: u9 :: u10 :: u11 :: u12 :: c13 :: c14 :: c15 :: c16 :: c17 :: c18 :: c19 :: c20 :: c21 :: c22 :: c23 :: c24 :: c25 :: c26 :: c27 :: c28 :: c29 :: c30 :: c31 :: c32 :: c33 :: c34 :: c35 :: c36 :: (.int .i64 (c : Int)) :: (.int .i64 (c : Int)) :: u39 :: u40 :: u41 :: u42 :: u43 :: u44 :: u45 :: u46 :: u47 :: u48 :: u49 :: u50 :: u51 :: u52 :: u53 :: u54 :: u55 :: u56 :: u57 :: u58 :: u59 :: u60 :: u61 :: u62 :: u63 :: c64 :: c65 :: c66 :: c67 :: c68 :: c69 :: c70 :: c71 :: c72 :: c73 :: c74 :: c75 :: c76 :: c77 :: c78 :: c79 :: c80 :: c81 :: c82 :: c83 :: c84 :: c85 :: c86 :: c87 :: c88 :: c89 :: c90 :: c91 :: []), []⟩ W))
    (HC : Hid (∀ (u8 u9 u10 u11 u12 u38 u39 u40 u41 u42 u43 u44 u45 u46 u47 u48 u49 u50 u51 u52 u53 u54 u55 u56 u57 u58 u59 u60 u61 u62 u63 : Value) (W : World), Hid ((∃ i, i < c ∧ ¬ GoodQ S q0 n c l s i) ∧ Chg (fun i => i = T) w0 W) → Q (.exit 1) ⟨List.toArray ((.pointer (some ⟨X, 0, none⟩)) :: c1 :: c2 :: c3 :: (.int .i64 (sl : Int)) :: (.pointer (some ⟨T, 0, none⟩)) :: c6 :: c7 :: u8 :: u9 :: u10 :: u11 :: u12 :: c13 :: c14 :: c15 :: c16 :: c17 :: c18 :: c19 :: c20 :: c21 :: c22 :: c23 :: c24 :: c25 :: c26 :: c27 :: c28 :: c29 :: c30 :: c31 :: c32 :: c33 :: c34 :: c35 :: c36 :: (.int .i64 (c : Int)) :: u38 :: u39 :: u40 :: u41 :: u42 :: u43 :: u44 :: u45 :: u46 :: u47 :: u48 :: u49 :: u50 :: u51 :: u52 :: u53 :: u54 :: u55 :: u56 :: u57 :: u58 :: u59 :: u60 :: u61 :: u62 :: u63 :: c64 :: c65 :: c66 :: c67 :: c68 :: c69 :: c70 :: c71 :: c72 :: c73 :: c74 :: c75 :: c76 :: c77 :: c78 :: c79 :: c80 :: c81 :: c82 :: c83 :: c84 :: c85 :: c86 :: c87 :: c88 :: c89 :: c90 :: c91 :: []), []⟩ W)) :
    (Code.loop body_nin).wp Tryd.prog Q ⟨List.toArray ((.pointer (some ⟨X, 0, none⟩)) :: c1 :: c2 :: c3 :: (.int .i64 (sl : Int)) :: (.pointer (some ⟨T, 0, none⟩)) :: c6 :: c7 :: (.slice none 0 0) :: c9 :: c10 :: c11 :: c12 :: c13 :: c14 :: c15 :: c16 :: c17 :: c18 :: c19 :: c20 :: c21 :: c22 :: c23 :: c24 :: c25 :: c26 :: c27 :: c28 :: c29 :: c30 :: c31 :: c32 :: c33 :: c34 :: c35 :: c36 :: (.int .i64 (c : Int)) :: (.int .i64 0) :: c39 :: c40 :: c41 :: c42 :: c43 :: c44 :: c45 :: c46 :: c47 :: c48 :: c49 :: c50 :: c51 :: c52 :: c53 :: c54 :: c55 :: c56 :: c57 :: c58 :: c59 :: c60 :: c61 :: c62 :: c63 :: c64 :: c65 :: c66 :: c67 :: c68 :: c69 :: c70 :: c71 :: c72 :: c73 :: c74 :: c75 :: c76 :: c77 :: c78 :: c79 :: c80 :: c81 :: c82 :: c83 :: c84 :: c85 :: c86 :: c87 :: c88 :: c89 :: c90 :: c91 :: []), []⟩ w0 := by
  unfold body_nin
  conv => arg 2; arg 1; whnf
  go_loopw [8, 38] (fun v x wx => NinRel S q0 n c l s T w0 v x wx) (fun _ x _ => c - (intOf x).toNat)
  case atStart => exact ⟨0, rfl, Nat.zero_le _, fun i hi => by omega, ⟨p0, hT.out⟩, World.ownsRow_nil _ _ _ _, Chg.refl _ _⟩
  case round =>
    obtain ⟨j, rfl, hj, hn⟩ := hrel
    have HN := Lib.hid hn
    obtain ⟨hck, hsl, hq0⟩ := hc.out
    have hlow := h0.out.room
    have cI : (c : Int) ≤ 1024 := by omega
    by_cases hlt : j < c
    · have jI : (j : Int) < c := by omega
      have HLT := Lib.hid hlt
      obtain ⟨i0, hi0, hz0, hz1, hz2⟩ := info_parts info_u8
      have hXT : X ≠ T := by
        have h1 := h0.out.pr.lt
        have h2 := hw.out.2
        omega
      have A0 : SlAt DC wr X a k D S F := (h0.out.on hw.out.1).chg hn.chg hXT fun i hi e => by
        have h1 := DC.lt h0.out.dk i hi
        have h2 := hw.out.2
        omega
      have HA := Lib.hid A0
      obtain ⟨q, hq⟩ : ∃ q, q = q0 + j := ⟨_, rfl⟩
      have hq2 : a + sl * k + j = q := by rw [hq, hq0]
      have hq3 : q < 1024 := by
        have : sl * k ≤ 1 * k := Nat.mul_le_mul hsl (Nat.le_refl k)
        omega
      have HSC : Hid (Calls Tryd.prog 59 #[.pointer (some ⟨X, 0, none⟩), .int .i64 (sl : Int), .int .i64 (j : Int)] wr fun e w' => e = .returned (.int .i64 (q : Int)) ∧ Below wr.heap.size wr w') := Lib.hid (by
        refine (slSector_any A0.pr sl j hsl (by omega) (by omega) (by omega)).mono ?_
        rintro e w' ⟨rfl, m, rfl⟩
        rw [hq2]
        exact ⟨rfl, below_drewN (Below.refl _ _) m⟩)
      obtain ⟨t, ht⟩ : ∃ t, sectW S.L (q : Int) = t := ⟨_, rfl⟩
      obtain ⟨g, hg⟩ : ∃ g, g = if t then hdOf (sectB S.L (q : Int)) else hd0 := ⟨_, rfl⟩
      have HRD : Hid (∀ W, SlAt DC W X a k D S F → Calls Tryd.prog 58 #[.pointer (some ⟨X, 0, none⟩), .int .i64 (q : Int)] W fun e w' => ∃ u, e = .returned (.tuple #[.agg g.v.toArray, u, .bool t]) ∧ (t = true → Rd w' u ((sectB S.L (q : Int)).drop 24) ∧ ∀ j, u.ownBlock = some j → W.heap.size ≤ j) ∧ Below W.heap.size W w') := Lib.hid fun W hW => slRead_any hW q hq3 t ht g hg
      have HTG : Hid (sectW S.L (q : Int) = t ∧ (g = if t then hdOf (sectB S.L (q : Int)) else hd0)) := Lib.hid ⟨ht, hg⟩
      have HQ0 := Lib.hid hq
      have HZ : Hid (g.v.length = 5) := Lib.hid rfl
      have HZ0 : Hid (hd0.v.length = 5) := Lib.hid rfl
      clear hn hlt hj hck hsl hq0 hlow A0 hq hq2 hq3 ht hg
      go_wp2_with (fail)
      refine HSC.out.mono ?_
      rintro e w1 ⟨rfl, b1⟩
      have A1 := Lib.hid (HA.out.on b1)
      have B1 := Lib.hid b1
      clear b1
      go_wp2_with (fail)
      refine (HRD.out w1 A1.out).mono ?_
      rintro e w2 ⟨u, rfl, ru, b2⟩
      have R2 := Lib.hid ru
      have B2 := Lib.hid (B1.out.trans (b2.mono B1.out.size))
      obtain ⟨C, hC⟩ : ∃ C, w2.heap.size = C := ⟨_, rfl⟩
      have HC2 := Lib.hid hC
      clear ru b2 hC
      obtain ⟨p, hp⟩ := HN.out.told
      have T2 := Lib.hid (hp.below B2.out hp.lt)
      have HTC : Hid (T < C) := Lib.hid (by rw [← HC2.out]; exact T2.out.lt)
      clear hp
      go_upto_region 11 with (first
        | (with_reducible refine here_alloc ?_
           refine wpList_alloc_w rfl 98 rfl hd0.v hd_zero C HC2.out ?_
           intro w4 k4 b4 z4
           have K4 := Lib.hid k4
           have B4 := Lib.hid b4
           clear k4 b4 z4)
        | (with_reducible refine here_store ?_
           refine wpList_store_blk rfl 98 _ _ rfl C 98 _ K4.out g.v rfl rfl (by rw [HZ.out, HZ0.out]) (by rw [HZ.out]; exact hd_info) (hd_one _) ?_
           intro w5 k5 s5
           have K5 := Lib.hid k5
           have B5 := Lib.hid (B4.out.trans s5.below)
           clear k5 s5 K4 B4))
      have T5 := Lib.hid (T2.out.below B5.out HTC.out)
      have c1 : w5.cell? ⟨T, 1, none⟩ = some (.int .i64 (p : Int)) := by rw [T5.out.cell]; rfl
      have f1 : w5.frozen? ⟨T, 1, none⟩ = false := T5.out.free 1
      obtain ⟨w6, hw6⟩ : ∃ W : World, W = w5.setCell ⟨T, 1, none⟩ (.int .i64 (j : Int)) := ⟨_, rfl⟩
      have T6 : Hid (Blk w6 T 98 (Hd.v ⟨n, j, c, l, s⟩)) := Lib.hid (by rw [hw6]; exact T5.out.set 1 (.int .i64 (j : Int)))
      have S6 : Hid (Sole w5 w6 T) := Lib.hid (by rw [hw6]; exact Sole.setCell _ _ _ _)
      have K6 := Lib.hid (S6.out.blk K5.out (Nat.ne_of_gt HTC.out))
      go_upto_region 12 with (fail)
      rw [← hw6]
      clear hw6 c1 f1 T5 T2 K5
      have HG6 : Hid (Chg (fun i => i = T) w0 w6) := Lib.hid (chg_join (chg_join HN.out.chg (chg_below (B2.out.trans (B5.out.mono (by rw [← HC2.out]; exact B2.out.size))))) (sole_only S6.out))
      cases t with
      | false =>
        have HB : Hid ((∃ i, i < c ∧ ¬ GoodQ S q0 n c l s i) ∧ Chg (fun i => i = T) w0 w6) := Lib.hid ⟨⟨j, HLT.out, fun h => by
          have h1 := h.1
          rw [← HQ0.out, HTG.out.1] at h1
          cases h1⟩, HG6.out⟩
        go_wp2_with (fail)
        exact HC.out _ _ _ _ _ _ _ _ _ _ _ _ _ _ _ _ _ _ _ _ _ _ _ _ _ _ _ _ _ _ _ _ HB
      | true =>
        by_cases he : g = ⟨n, j, c, l, s⟩
        · have hEQ : ∀ W, (Op.equalIn 10000 98 (.agg g.v.toArray) (.agg (Hd.v ⟨n, j, c, l, s⟩).toArray)).run Tryd.prog W = .ok true W := run_equal_hd _ _ true ⟨fun _ => he, fun _ => rfl⟩
          obtain ⟨hv, hhv⟩ : ∃ hv, hv = Hd.v ⟨n, j, c, l, s⟩ := ⟨_, rfl⟩
          have HHV := Lib.hid hhv
          have HHL : Hid (hv.length = 5) := Lib.hid (by rw [hhv]; rfl)
          rw [← hhv] at hEQ T6
          have HGD : Hid (GoodQ S q0 n c l s j) := Lib.hid (by
            have h1 := HTG.out
            rw [HQ0.out] at h1
            exact ⟨h1.1, h1.2.symm.trans he⟩)
          have hru := R2.out rfl
          have RU : Hid (Rd w6 u ((sectB S.L (q : Int)).drop 24)) := Lib.hid (chg_rd0 (sole_only S6.out) (hru.1.below (HC2.out.symm ▸ B5.out)) fun _ i hi e => by
            have h1 := hru.2 i hi
            have h2 := (HN.out.told).choose_spec.lt
            have h3 := HA.out.pr.lt
            have h4 := B1.out.size
            have e2 : i = T := e
            omega)
          have HRW := Lib.hid HN.out.row
          have HLQ : Hid (((sectB S.L (q : Int)).drop 24).length = 104) := Lib.hid (by rw [List.length_drop, sectB_len (DC.good HA.out.dk)])
          have R6 : Hid (w6.ownsRow w0.heap.size 5 1 u8 (104 * j) ((bodyQ S q0 j).map bv)) := Lib.hid (by
            have h5 : Below wr.heap.size wr w5 := B2.out.trans (B5.out.mono (by rw [← HC2.out]; exact B2.out.size))
            refine own_sole (own_lain HRW.out h5) S6.out fun e => ?_
            have h6 := (HRW.out.lt _ e).1
            have h7 := hT.out.lt
            omega)
          have HSZ : Hid (w0.heap.size ≤ w6.heap.size) := Lib.hid HG6.out.size
          have HJ : Hid (104 * j + 104 ≤ 140737488355328) := Lib.hid (by have := HLT.out; have := hc.out.1; have := h0.out.room; omega)
          clear he hhv hru
          go_wp2_with (first
            | (with_reducible refine here_load ?_
               refine wpList_load_blk_g 98 (.tmp 10) rfl (by rfl) C rfl 98 g.v _ K6.out Tryd.underlying98 rfl (by rw [HZ.out]; exact hd_info) ?_)
            | (with_reducible refine here_load ?_
               refine wpList_load_blk_g 98 (.tmp 5) rfl (by rfl) T rfl 98 hv _ T6.out Tryd.underlying98 rfl (by rw [HHL.out]; exact hd_info) ?_)
            | (at_builtin
               refine wpList_append_rd _ rfl (.tmp 60) (.tmp 61) _ rfl w0.heap.size 5 i0 _ Tryd.underlying23 hi0 hz0 hz1 hz2 rfl _ _ _ rfl R6.out _ ((sectB S.L (q : Int)).drop 24) rfl RU.out (by rw [HLQ.out]; exact HJ.out) HSZ.out ?_
               intro v7 w7 own7 g7
               have O7 := Lib.hid own7
               have G7 := Lib.hid g7
               clear own7 g7))
          go_roundw
          case rel =>
            have hle := HLT.out
            have hT2 := hT.out.lt
            have hn8 : u8.ownBlock ≠ some T := fun e => by
              have h6 := (HRW.out.lt _ e).1
              omega
            refine ⟨j + 1, by go_num, by omega, fun i hi => ?_, ⟨j, ?_⟩, ?_, ?_⟩
            · by_cases e : i = j
              · subst e
                exact HGD.out
              · exact HN.out.good i (by omega)
            · rw [← HHV.out]
              exact T6.out.grew G7.out hn8
            · rw [bodyQ_succ, ← HQ0.out, List.map_append, show 104 * (j + 1) = 104 * j + ((sectB S.L (q : Int)).drop 24).length by rw [HLQ.out]; omega]
              exact O7.out
            · have g7 := G7.out
              refine HG6.out.trans (⟨g7.os, g7.tape, g7.output, g7.size, fun i hi hni => g7.block i hi fun e => hni (.inr ?_)⟩ : Chg _ w6 w7)
              exact (HRW.out.lt i e.symm).1
          case measure => simp [intOf]; omega
        · have hEQ : ∀ W, (Op.equalIn 10000 98 (.agg g.v.toArray) (.agg (Hd.v ⟨n, j, c, l, s⟩).toArray)).run Tryd.prog W = .ok false W := run_equal_hd _ _ false ⟨fun h => (by cases h), fun h => absurd h he⟩
          obtain ⟨hv, hhv⟩ : ∃ hv, hv = Hd.v ⟨n, j, c, l, s⟩ := ⟨_, rfl⟩
          have HHL : Hid (hv.length = 5) := Lib.hid (by rw [hhv]; rfl)
          rw [← hhv] at hEQ T6
          have HB : Hid ((∃ i, i < c ∧ ¬ GoodQ S q0 n c l s i) ∧ Chg (fun i => i = T) w0 w6) := Lib.hid ⟨⟨j, HLT.out, fun h => by
            have h1 := h.2
            rw [← HQ0.out] at h1
            exact he (HTG.out.2.trans h1)⟩, HG6.out⟩
          clear he hhv
          go_wp2_with (first
            | (with_reducible refine here_load ?_
               refine wpList_load_blk_g 98 (.tmp 10) rfl (by rfl) C rfl 98 g.v _ K6.out Tryd.underlying98 rfl (by rw [HZ.out]; exact hd_info) ?_)
            | (with_reducible refine here_load ?_
               refine wpList_load_blk_g 98 (.tmp 5) rfl (by rfl) T rfl 98 hv _ T6.out Tryd.underlying98 rfl (by rw [HHL.out]; exact hd_info) ?_))
          exact HC.out _ _ _ _ _ _ _ _ _ _ _ _ _ _ _ _ _ _ _ _ _ _ _ _ _ _ _ _ _ _ _ _ HB
    · obtain rfl : j = c := by omega
      clear hj hlt hn
      go_wp2_with (fail)
      exact HQ.out _ _ _ _ _ _ _ _ _ _ _ _ _ _ _ _ _ _ _ _ _ _ _ _ _ _ _ _ _ _ _ HN
end Go.Proofs.YtbodiioemohenaaDoor

/- When a slot is whole, told by what its sectors' heads are read as. No program in sight. Condition: the disk is as a disk is. -/
namespace Go.Proofs.YtbodiioemohenaaDoor
open Go.RowKit

theorem take_add' {α : Type _} (x : List α) (m n : Nat) : x.take (m + n) = x.take m ++ (x.drop m).take n := by
  rw [List.take_add]
/-- A sector's first bytes, out of what they are read as. -/
theorem hd_take {x : List UInt8} (h : 24 ≤ x.length) : x.take 24 = leB 8 (hdOf x).n ++ leB 2 (hdOf x).i ++ leB 2 (hdOf x).c ++ leB 4 (hdOf x).l ++ leB 8 (hdOf x).s := by
  have e1 : leB 8 (hdOf x).n = x.take 8 := leB_numB 8 _ (by rw [List.length_take]; omega)
  have e2 : leB 2 (hdOf x).i = (x.drop 8).take 2 := leB_numB 2 _ (by rw [List.length_take, List.length_drop]; omega)
  have e3 : leB 2 (hdOf x).c = (x.drop 10).take 2 := leB_numB 2 _ (by rw [List.length_take, List.length_drop]; omega)
  have e4 : leB 4 (hdOf x).l = (x.drop 12).take 4 := leB_numB 4 _ (by rw [List.length_take, List.length_drop]; omega)
  have e5 : leB 8 (hdOf x).s = (x.drop 16).take 8 := leB_numB 8 _ (by rw [List.length_take, List.length_drop]; omega)
  rw [e1, e2, e3, e4, e5, ← take_add' x 8 2, ← take_add' x 10 2, ← take_add' x 12 4, ← take_add' x 16 8]
theorem hd_of_take {x fp : List UInt8} {n i c l : Nat} (h : x.take 24 = hdrS n i c l fp) (hf : fp.length = 8) (hn : n < 256 ^ 8) (hi : i < 256 ^ 2) (hc : c < 256 ^ 2) (hl : l < 256 ^ 4) : hdOf x = ⟨n, i, c, l, numB fp⟩ := by
  have p : ∀ m k, m + k ≤ 24 → (x.drop m).take k = ((hdrS n i c l fp).drop m).take k := fun m k hmk => by
    rw [← h, List.drop_take, List.take_take, Nat.min_eq_left (by omega)]
  have q : x.take 8 = (hdrS n i c l fp).take 8 := by
    rw [← h, List.take_take]
    rfl
  unfold hdOf
  rw [q, p 8 2 (by decide), p 10 2 (by decide), p 12 4 (by decide), p 16 8 (by decide)]
  have e1 : (hdrS n i c l fp).take 8 = leB 8 n := by
    unfold hdrS
    rw [List.append_assoc, List.append_assoc, List.append_assoc, List.take_append_of_le_length (by rw [leB_length]; omega), List.take_of_length_le (by rw [leB_length]; omega)]
  have e2 : ((hdrS n i c l fp).drop 8).take 2 = leB 2 i := by
    unfold hdrS
    rw [List.append_assoc, List.append_assoc, List.append_assoc, List.drop_left' (leB_length _ _), List.take_append_of_le_length (by rw [leB_length]; omega), List.take_of_length_le (by rw [leB_length]; omega)]
  have e3 : ((hdrS n i c l fp).drop 10).take 2 = leB 2 c := by
    unfold hdrS
    rw [List.append_assoc, List.append_assoc, List.drop_left' (by simp [leB_length]), List.take_append_of_le_length (by rw [leB_length]; omega), List.take_of_length_le (by rw [leB_length]; omega)]
  have e4 : ((hdrS n i c l fp).drop 12).take 4 = leB 4 l := by
    unfold hdrS
    rw [List.append_assoc, List.drop_left' (by simp [leB_length]), List.take_append_of_le_length (by rw [leB_length]; omega), List.take_of_length_le (by rw [leB_length]; omega)]
  have e5 : ((hdrS n i c l fp).drop 16).take 8 = fp := by
    unfold hdrS
    rw [List.drop_left' (by simp [leB_length]), List.take_of_length_le (by omega)]
  rw [e1, e2, e3, e4, e5, numB_le 8 n hn, numB_le 2 i hi, numB_le 2 c hc, numB_le 4 l hl]
theorem fp8_length (b : List UInt8) : (fp8 b).length = 8 := by
  unfold fp8
  rw [List.length_take]
  simp [shaB, St.bytes, beB_length]
theorem view_some {S : DS} {q0 i : Nat} {x : List UInt8} : viewS S q0 i = some x ↔ sectW S.L ((q0 + i : Nat) : Int) = true ∧ sectB S.L ((q0 + i : Nat) : Int) = x := by
  unfold viewS
  by_cases h : sectW S.L ((q0 + i : Nat) : Int) = true
  · rw [if_pos h]
    exact ⟨fun e => ⟨h, Option.some.inj e⟩, fun e => by rw [e.2]⟩
  · rw [if_neg h]
    exact ⟨fun e => (by cases e), fun e => absurd e.1 h⟩
theorem bodyV_bodyQ {S : DS} {q0 c : Nat} (h : ∀ i, i < c → sectW S.L ((q0 + i : Nat) : Int) = true) : bodyV (viewS S q0) c = bodyQ S q0 c := by
  unfold bodyV bodyQ
  congr 1
  apply List.map_congr_left
  intro i hi
  rw [view_some.2 ⟨h i (List.mem_range.1 hi), rfl⟩]
  rfl
/-- All parts tell what they are to tell, and the bytes have the fingerprint. -/
structure WhQ (S : DS) (q0 k : Nat) (h : Hd) : Prop where
  first : sectW S.L ((q0 : Nat) : Int) = true ∧ hdOf (sectB S.L ((q0 : Nat) : Int)) = h
  fits : h.c ≤ k ∧ h.c = cntS h.l
  good : ∀ i, i < h.c → GoodQ S q0 h.n h.c h.l h.s i
  sum : numB (fp8 ((bodyQ S q0 h.c).take h.l)) = h.s
theorem whole_yes {S : DS} (ho : DOk S) {q0 k : Nat} {h : Hd} (hw : WhQ S q0 k h) (_hk : k ≤ 1024) : Whole fp8 (viewS S q0) k ((bodyQ S q0 h.c).take h.l) h.n := by
  have hb : ((bodyQ S q0 h.c).take h.l).length = h.l := by
    have h1 := cntS_ge h.l
    have h2 := hw.fits.2
    rw [List.length_take, bodyQ_length ho]
    omega
  have hn : h.n < 256 ^ 8 := by
    rw [← hw.first.2]
    exact numB_take_lt _ 8
  have hl : h.l < 256 ^ 4 := by
    rw [← hw.first.2]
    exact numB_take_lt _ 4
  refine ⟨h.c, hw.fits.1, by rw [hb]; exact hw.fits.2, hn, fun i hi => ⟨_, view_some.2 ⟨(hw.good i hi).1, rfl⟩, ?_⟩, ?_, by rw [hb]; exact hl⟩
  · have h3 := hd_take (x := sectB S.L ((q0 + i : Nat) : Int)) (by rw [sectB_len ho]; decide)
    rw [(hw.good i hi).2] at h3
    rw [h3, hb]
    unfold hdrS
    congr 1
    show leB 8 h.s = _
    rw [← hw.sum, leB_numB 8 _ (fp8_length _)]
  · rw [hb, bodyV_bodyQ fun i hi => (hw.good i hi).1]
theorem whole_parts {S : DS} {q0 k n : Nat} {b : List UInt8} (hk : k ≤ 1024) (h : Whole fp8 (viewS S q0) k b n) : ∃ g : Hd, WhQ S q0 k g ∧ g.n = n ∧ b = (bodyQ S q0 g.c).take g.l := by
  obtain ⟨c, h1, h2, h3, h4, h5, h6⟩ := h
  have hg : ∀ i, i < c → GoodQ S q0 n c b.length (numB (fp8 b)) i := fun i hi => by
    obtain ⟨x, hx, ht⟩ := h4 i hi
    obtain ⟨hx1, hx2⟩ := view_some.1 hx
    refine ⟨hx1, ?_⟩
    rw [hx2]
    exact hd_of_take ht (fp8_length b) h3 (by omega) (by omega) h6
  have hb : b = (bodyQ S q0 c).take b.length := by rw [← bodyV_bodyQ fun i hi => (hg i hi).1]; exact h5
  have h0 : 0 < c := by
    rw [h2]
    exact cntS_pos _
  refine ⟨⟨n, 0, c, b.length, numB (fp8 b)⟩, ⟨hg 0 h0, ⟨h1, h2⟩, hg, ?_⟩, rfl, hb⟩
  show numB (fp8 ((bodyQ S q0 c).take b.length)) = numB (fp8 b)
  rw [← hb]
theorem slot_yes {S : DS} (ho : DOk S) {q0 k : Nat} {h : Hd} (hw : WhQ S q0 k h) (hk : k ≤ 1024) : slotOf fp8 (viewS S q0) k = some ((bodyQ S q0 h.c).take h.l, h.n) := (slotOf_some (by omega)).2 (whole_yes ho hw hk)
theorem slot_no {S : DS} {q0 k : Nat} (hk : k ≤ 1024) (h : ∀ g, ¬ WhQ S q0 k g) : slotOf fp8 (viewS S q0) k = none := slotOf_none.2 fun _ _ hw => by
  obtain ⟨g, hg, _⟩ := whole_parts hk hw
  exact h g hg
end Go.Proofs.YtbodiioemohenaaDoor
