/- Part 34 of the words that the laws share: JrRec, JrRcv. No condition of its own: each theorem says its own. -/
import Derived.Test.YtbodiioemohenaaDoorPart29
import Derived.Test.YtbodiioemohenaaDoorPart19
import Derived.Test.YtbodiioemohenaaDoorPart33

/- The developers' records, its outer loop: one record behind the other. Premise: the disk's contracts. -/
namespace Go.Proofs.YtbodiioemohenaaDoor
open Go.RowKit

theorem own_chg {w w' : World} {base n T : Nat} {t : TypeId} {v : Value} {xs : List Value} (h : w.ownsRow base t 1 v n xs) (hc : Chg (fun i => i = T) w w') (hne : v.ownBlock ≠ some T) : w'.ownsRow base t 1 v n xs :=
  h.kept (row := some T) ⟨hc.os, hc.tape, hc.output, hc.size, fun k hk he => hc.keep k hk fun e => he (by rw [e])⟩ (.inr hne)
theorem own_take {w : World} {base n l c : Nat} {A : Option Addr} {t : TypeId} {xs : List Value} (h : w.ownsRow base t 1 (.slice A n c) n xs) (h0 : 0 < n) (hl : l ≤ n) : w.ownsRow base t 1 (.slice A l c) l (xs.take l) := by
  rcases h.2 with ⟨_, h1⟩ | ⟨g, cap, cur, he, hb, hg, hn, hm, hs, ht⟩
  · omega
  · injection he with e1 e2 e3
    subst e1 e3
    refine ⟨by rw [List.length_take, h.1]; omega, .inr ⟨g, c, cur, rfl, hb, hg, by omega, hm, hs, ?_⟩⟩
    rw [← ht, List.take_take, Nat.mul_one, Nat.mul_one, Nat.min_eq_left hl]
/-- Records read so far: a row of slices, each the beginning of a row of its own. -/
structure JreIs (S : DS) (n : Nat) (rs : List (List UInt8)) (w : World) (m p : Nat) (v : Value) (W : World) : Prop where
  rest : Recs (viewS S 0) n m p (rs.drop m)
  le : m ≤ rs.length
  fit : 512 + m ≤ p ∧ p ≤ 1024
  row : ∃ ls : List Value, ls.length = m ∧ W.ownsRow w.heap.size 23 1 v m ls ∧ ∀ j (h : j < ls.length), W.ownsRow w.heap.size 5 1 ls[j] (rs.getD j []).length ((rs.getD j []).map bv)
  below : Below w.heap.size w W
def JreRel (S : DS) (n : Nat) (rs : List (List UInt8)) (w : World) (v x : Value) (W : World) : Prop := ∃ m p : Nat, x = .int .i64 (p : Int) ∧ JreIs S n rs w m p v W
theorem JreIs.rsa {S : DS} {n p : Nat} {rs : List (List UInt8)} {w W : World} {v : Value} (h : JreIs S n rs w rs.length p v W) : RsA W v rs := by
  obtain ⟨ls, hls, hrow, hrows⟩ := h.row
  have hf := h.fit
  obtain ⟨Ap, cp, rfl, hcell⟩ := row_form hrow
  refine ⟨Ap, cp, rfl, by unfold maxLen; omega, fun i hi => ?_⟩
  obtain ⟨g, h1, _, h2, h3⟩ := hcell i ls[i] (List.getElem?_eq_getElem (by omega))
  have e : rs.getD i [] = rs[i] := by rw [List.getD, List.getElem?_eq_getElem hi]; rfl
  have hr : Rd W ls[i] rs[i] := by
    rw [← e]
    exact Rd.of_own (hrows i (by omega))
  exact ⟨g, 0, ls[i], h1, h2, by rw [Nat.zero_add]; exact h3, hr, rd_elder hr⟩
noncomputable def body_jre : Code := (((Tryd.f32.body.map loopsOf).getD [])[0]?).getD .skip
set_option maxRecDepth 100000 in
set_option maxHeartbeats 8000000 in
theorem jre_loop {DC : DiskW} (c2 c3 c4 c7 c8 c9 c10 c11 c12 c13 c14 c15 c16 c17 c18 c19 c20 c21 c22 c23 c24 c25 c26 c27 c28 c29 c30 c31 c32 c33 c34 c35 c36 c37 c38 c39 c40 c41 c42 c43 c44 c45 c46 c47 c48 c49 c50 c51 c52 c53 c54 c55 c56 c57 c58 c59 c60 c61 c62 c63 c64 c65 c66 c67 c68 c69 c70 : Value) {X D : Nat} {pp : Value} {st : JS} {S : DS} {F : Nat → Prop} (n : Nat) (rs : List (List UInt8)) (w : World) (h0 : Hid (JrAt DC w X D pp st S F)) (hr : Hid (Recs (viewS S 0) n 0 512 rs)) {Q : Exit → Act → World → Prop}
    (HQ : Hid (∀ (u6 u7 u8 u9 u10 u11 u12 u13 u14 u15 u16 u17 u18 u19 u20 u21 u22 u23 u24 u25 u26 u27 u28 u29 u30 u31 u32 u33 u34 u35 u36 u37 u38 u39 u40 u41 u42 u43 u44 u45 u46 u47 u48 u49 u50 u51 u52 u53 u54 u55 u56 u57 u58 u59 u60 u61 u62 u63 u64 u65 u66 u67 u68 u69 v : Value) (W : World), Hid (RsA W v rs ∧ Below w.heap.size w W) → Q (.exit 0) ⟨List.toArray ((.pointer (some ⟨X, 0, none⟩)) :: (.int .u64 (n : Int)) :: c2 :: c3 :: c4 :: v :: u6 :: u7 :: u8 :: u9 :: u10 :: u11 :: u12 :: u13 :: u14 :: u15 :: u16 :: u17 :: u18 :: u19 :: u20 :: u21 :: u22 :: u23 :: u24 :: u25 :: u26 :: u27 :: u28 :: u29 :: u30 :: u31 :: u32 :: u33 :: u34 :: u35 :: u36 :: u37 :: u38 :: u39 :: u40 :: u41 :: u42 :: u43 :: u44 :: u45 :: u46 :: u47 :: u48 :: u49 :: u50 :: u51 :: u52 :: u53 :: u54 :: u55 :: u56 :: u57 :: u58 :: u59 :: u60 :: u61 :: u62 :: u63 :: u64 :: u65 :: u66 :: u67 :: u68 :: u69 :: c70 :: []), []⟩ W)) :
    (Code.loop body_jre).wp Tryd.prog Q ⟨List.toArray ((.pointer (some ⟨X, 0, none⟩)) :: (.int .u64 (n : Int)) :: c2 :: c3 :: c4 :: (.slice none 0 0) :: (.int .i64 512) :: c7 :: c8 :: c9 :: c10 :: c11 :: c12 :: c13 :: c14 :: c15 :: c16 :: c17 :: c18 :: c19 :: c20 :: c21 :: c22 :: c23 :: c24 :: c25 :: c26 :: c27 :: c28 :: c29 :: c30 :: c31 :: c32 :: c33 :: c34 :: c35 :: c36 :: c37 :: c38 :: c39 :: c40 :: c41 :: c42 :: c43 :: c44 :: c45 :: c46 :: c47 :: c48 :: c49 :: c50 :: c51 :: c52 :: c53 :: c54 :: c55 :: c56 :: c57 :: c58 :: c59 :: c60 :: c61 :: c62 :: c63 :: c64 :: c65 :: c66 :: c67 :: c68 :: c69 :: c70 :: []), []⟩ w := by
  unfold body_jre
  conv => arg 2; arg 1; whnf
  go_loopw [5, 6] (fun v x wx => JreRel S n rs w v x wx) (fun _ x _ => 1024 - (intOf x).toNat)
  case atStart => exact ⟨0, 512, rfl, ⟨hr.out, Nat.zero_le _, by decide, ⟨[], rfl, World.ownsRow_nil _ _ _ _, fun j h => (by cases h)⟩, Below.refl _ _⟩⟩
  case round =>
    obtain ⟨m, p, rfl, hw⟩ := hrel
    have HW := Lib.hid hw
    obtain ⟨hf1, hf2⟩ := hw.fit
    have A0 : JrAt DC wr X D pp st S F := h0.out.on hw.below
    have HA := Lib.hid A0
    obtain ⟨t, ht⟩ : ∃ t, okS S p = t := ⟨_, rfl⟩
    obtain ⟨g, hg⟩ : ∃ g, g = if t then hjOf (sectB S.L (p : Int)) else hj0 := ⟨_, rfl⟩
    have HRD : Hid (Calls Tryd.prog 46 #[.pointer (some ⟨X, 0, none⟩), .int .i64 (p : Int)] wr fun e w' => ∃ u, e = .returned (.tuple #[.agg g.v.toArray, u, .bool t]) ∧ (t = true → Rd w' u ((sectB S.L (p : Int)).drop 20) ∧ ∀ j, u.ownBlock = some j → wr.heap.size ≤ j) ∧ Below wr.heap.size wr w') := Lib.hid (jRead_any A0 p (by omega) t ht g hg)
    have HTG : Hid (okS S p = t ∧ (g = if t then hjOf (sectB S.L (p : Int)) else hj0)) := Lib.hid ⟨ht, hg⟩
    have HZ : Hid (g.v.length = 5) := Lib.hid rfl
    have HZ0 : Hid (hj0.v.length = 5) := Lib.hid rfl
    have HGB : Hid (g.c < 65536 ∧ g.l < 4294967296) := Lib.hid (by
      rw [hg]
      cases t with
      | true => exact ⟨numB_take_lt _ 2, numB_take_lt _ 4⟩
      | false => exact ⟨show 0 < 65536 by decide, show 0 < 4294967296 by decide⟩)
    obtain ⟨bb, hbb⟩ : ∃ bb, beginsB g n m = bb := ⟨_, rfl⟩
    have HBG : Hid (∀ W, Calls Tryd.prog 47 #[.agg g.v.toArray, .int .u64 (n : Int), .int .i64 (m : Int)] W fun e w' => e = .returned (.bool bb) ∧ Below W.heap.size W w') := Lib.hid fun W => by
      rw [← hbb]
      exact jBegins_any g n m HGB.out.2 W
    have HBB := Lib.hid hbb
    have HNO : Hid (t = false ∨ bb = false → m = rs.length) := Lib.hid fun h => by
      have h1 := recs_none hw.rest (rec_no_first (by omega) t ht hg (by rw [hbb]; exact h))
      have h2 := congrArg List.length h1
      rw [List.length_drop, List.length_nil] at h2
      have h3 := hw.le
      omega
    obtain ⟨ls, hls, horow, hrows⟩ := hw.row
    obtain ⟨Al, cl, rfl⟩ := own_shape horow
    have HMP : Hid (512 + m ≤ p ∧ p ≤ 1024) := Lib.hid ⟨hf1, hf2⟩
    have HLS := Lib.hid hls
    have HOR := Lib.hid horow
    have HRW := Lib.hid hrows
    clear hw hf1 hf2 A0 ht hg hbb hls horow hrows
    go_wp2_with (fail)
    refine HRD.out.mono ?_
    rintro e w2 ⟨u1, rfl, ru, b2⟩
    have B2 := Lib.hid b2
    obtain ⟨T, hT⟩ : ∃ T, w2.heap.size = T := ⟨_, rfl⟩
    have HT2 := Lib.hid hT
    clear ru b2 hT
    go_upto_region 4 with (first
      | (with_reducible refine here_alloc ?_
         refine wpList_alloc_w rfl 75 rfl hj0.v hj_zero T HT2.out ?_
         intro w4 k4 b4 z4
         have K4 := Lib.hid k4
         have B4 := Lib.hid b4
         clear k4 b4 z4)
      | (with_reducible refine here_store ?_
         refine wpList_store_blk rfl 75 _ _ rfl T 75 _ K4.out g.v rfl rfl (by rw [HZ.out, HZ0.out]) (by rw [HZ.out]; exact hj_info) (hj_one _) ?_
         intro w5 k5 s5
         have K5 := Lib.hid k5
         have B5 := Lib.hid (B4.out.trans s5.below)
         clear k5 s5 K4 B4))
    have E5 : Hid (Below wr.heap.size wr w5) := Lib.hid (B2.out.trans (B5.out.mono (by rw [← HT2.out]; exact B2.out.size)))
    cases t with
    | false =>
      have HM : Hid (m = rs.length) := Lib.hid (HNO.out (.inl rfl))
      have HB : Hid (RsA w5 (.slice Al m cl) rs ∧ Below w.heap.size w w5) := Lib.hid (by
        have h1 := HW.out
        have h2 := HM.out
        subst h2
        exact ⟨h1.rsa.below E5.out, h1.below.trans (E5.out.mono h1.below.size)⟩)
      go_wp2_with (fail)
      exact HQ.out _ _ _ _ _ _ _ _ _ _ _ _ _ _ _ _ _ _ _ _ _ _ _ _ _ _ _ _ _ _ _ _ _ _ _ _ _ _ _ _ _ _ _ _ _ _ _ _ _ _ _ _ _ _ _ _ _ _ _ _ _ _ _ _ _ _ HB
    | true =>
      go_wp2_with (first
        | (with_reducible refine here_load ?_
           refine wpList_load_blk_g 75 (.tmp 7) rfl (by rfl) T rfl 75 g.v _ K5.out Tryd.underlying75 rfl (by rw [HZ.out]; exact hj_info) ?_))
      refine (HBG.out w5).mono ?_
      rintro e w6 ⟨rfl, b6⟩
      have B6 := Lib.hid b6
      have E6 : Hid (Below wr.heap.size wr w6) := Lib.hid (E5.out.trans (b6.mono E5.out.size))
      have K6 : Hid (Blk w6 T 75 g.v) := Lib.hid (K5.out.below b6 K5.out.lt)
      clear b6
      cases bb with
      | false =>
        have HM : Hid (m = rs.length) := Lib.hid (HNO.out (.inr rfl))
        have HB : Hid (RsA w6 (.slice Al m cl) rs ∧ Below w.heap.size w w6) := Lib.hid (by
          have h1 := HW.out
          have h2 := HM.out
          subst h2
          exact ⟨h1.rsa.below E6.out, h1.below.trans (E6.out.mono h1.below.size)⟩)
        go_wp2_with (fail)
        exact HQ.out _ _ _ _ _ _ _ _ _ _ _ _ _ _ _ _ _ _ _ _ _ _ _ _ _ _ _ _ _ _ _ _ _ _ _ _ _ _ _ _ _ _ _ _ _ _ _ _ _ _ _ _ _ _ _ _ _ _ _ _ _ _ _ _ _ _ HB
      | true =>
        obtain ⟨n', m', i', c, l⟩ := g
        have hbg : n' = n ∧ m' = m ∧ c = cntR l := by
          have h1 := HBB.out
          unfold beginsB at h1
          simp only [Bool.and_eq_true, beq_iff_eq] at h1
          exact ⟨h1.1.1, h1.1.2, h1.2⟩
        obtain ⟨hn', hm', hcc⟩ := hbg
        subst hn' hm'
        have HCC := Lib.hid hcc
        have HCL : Hid (c < 65536 ∧ l < 4294967296) := Lib.hid HGB.out
        have HG0 : Hid (hjOf (sectB S.L (p : Int)) = ⟨n', m', i', c, l⟩) := Lib.hid HTG.out.2.symm
        have c3 : w6.cell? ⟨T, 3, none⟩ = some (.int .i64 (c : Int)) := by rw [K6.out.cell]; rfl
        clear hcc
        go_wp2_with (fail)
        clear c3
        have HLOW : Hid (w.heap.size ≤ T ∧ wr.heap.size ≤ T ∧ T < w6.heap.size ∧ w.heap.size ≤ wr.heap.size) := Lib.hid (by
          have h1 := HW.out.below.size
          have h2 := B2.out.size
          have h3 := HT2.out
          have h4 := K6.out.lt
          omega)
        refine jin_loop _ _ _ _ _ _ _ _ _ _ _ _ _ _ _ _ _ _ _ _ _ _ _ _ _ _ _ _ _ _ _ _ _ _ _ _ _ _ _ _ _ _ _ _ _ _ _ _ _ _ _ _ _ _ _ _ _ _ _ _ _ _ _ _ _ T p n' m' c l i' w w6 h0 (Lib.hid ⟨HW.out.below.trans (E6.out.mono HW.out.below.size), HLOW.out.1⟩) (Lib.hid ⟨HMP.out.2, HCL.out.1⟩) K6 (Lib.hid ?_) (Lib.hid ?_)
        · intro u11 u12 u13 u14 u35 u36 u37 u38 u39 u40 u41 u42 u43 u44 u45 u46 u47 u48 u49 u50 u51 u52 u53 u54 u55 u56 u57 u58 v7 w7 hN
          obtain ⟨g7, cp7, rfl, hcp⟩ : ∃ g7 cp7, v7 = .slice (some ⟨g7, 0, none⟩) (108 * c) cp7 ∧ 108 * c ≤ cp7 := by
            have h1 := HCC.out
            have h2 := cntR_pos l
            obtain ⟨g7, cp7, e1, e2, _⟩ := own_form hN.out.row (by omega)
            exact ⟨g7, cp7, e1, e2⟩
          obtain ⟨bs, hbs⟩ : ∃ bs, bs = (bodyJ S p c).take l := ⟨_, rfl⟩
          have hlc : l ≤ 108 * c := by
            have h1 := cntR_ge l
            rw [← HCC.out] at h1
            exact h1
          have HBS : Hid (bs = (bodyJ S p c).take l ∧ bs.length = l) := Lib.hid ⟨hbs, by rw [hbs, List.length_take, bodyJ_length (DC.good h0.out.dk)]; omega⟩
          have HRA : Hid (RecAt (viewS S 0) n' m' p bs) := Lib.hid (by
            rw [hbs]
            exact rec_yes (DC.good h0.out.dk) HCC.out hN.out.good)
          obtain ⟨qs, hqs, hrest⟩ := recs_some HW.out.rest HRA.out
          have HQS := Lib.hid hqs
          have HRE : Hid (Recs (viewS S 0) n' (m' + 1) (p + c) qs) := Lib.hid (by
            rw [HBS.out.2, ← HCC.out] at hrest
            exact hrest)
          have O7 : Hid (w7.ownsRow w.heap.size 5 1 (.slice (some ⟨g7, 0, none⟩) l cp7) l (bs.map bv)) := Lib.hid (by
            have h1 := own_take (l := l) hN.out.row (by have h1 := HCC.out; have h2 := cntR_pos l; omega) hlc
            rw [← List.map_take, ← hbs] at h1
            exact own_mono h1 (by have := HLOW.out; omega))
          obtain ⟨q108, hq108⟩ : ∃ q108, q108 = 108 * c := ⟨_, rfl⟩
          rw [← hq108] at hcp hlc ⊢
          have lI : (l : Int) ≤ cp7 := by omega
          obtain ⟨p7, hT7⟩ := hN.out.told
          have T7 := Lib.hid hT7
          have d4 : w7.cell? ⟨T, 4, none⟩ = some (.int .i64 (l : Int)) := by rw [hT7.cell]; rfl
          have CH7 : Hid (Chg (fun i => i = T) w6 w7) := Lib.hid hN.out.chg
          obtain ⟨r0, hr0, hrz, hr1, hr2⟩ := info_parts info_rows
          have HNB : Hid (∀ (t : TypeId) (x : Value) (k : Nat) (xs : List Value), wr.ownsRow w.heap.size t 1 x k xs → x.ownBlock ≠ some T) := Lib.hid fun t x k xs hx e => by
            have h1 := (hx.lt T e).2
            have h2 := HLOW.out
            omega
          have OR7 : Hid (w7.ownsRow w.heap.size 23 1 (.slice Al m' cl) m' ls) := Lib.hid (own_chg (own_lain HOR.out E6.out) CH7.out (HNB.out _ _ _ _ HOR.out))
          have RW7 : Hid (∀ j (h : j < ls.length), w7.ownsRow w.heap.size 5 1 ls[j] (rs.getD j []).length ((rs.getD j []).map bv)) := Lib.hid fun j h => own_chg (own_lain (HRW.out j h) E6.out) CH7.out (HNB.out _ _ _ _ (HRW.out j h))
          have HV1 : Hid ((Value.slice (some ⟨g7, 0, none⟩) l cp7).oneCell' = true) := Lib.hid rfl
          have HMB : Hid (m' + 1 ≤ maxLen ∧ (m' + 1) * 24 ≤ 140737488355328) := Lib.hid (by have h1 := HMP.out; unfold maxLen; omega)
          have HZ7 : Hid (w.heap.size ≤ w7.heap.size) := Lib.hid (by have h1 := HLOW.out; have h2 := CH7.out.size; omega)
          obtain ⟨pc, hpc⟩ : ∃ pc, pc = p + c := ⟨_, rfl⟩
          have e9 : IntKind.i64.wrap ((p : Int) + (c : Int)) = (pc : Int) := by
            have h1 := HMP.out
            have h2 := HCL.out
            rw [IntWalk.i64_in _ (by omega), hpc]
            omega
          have HPC := Lib.hid hpc
          have HRO : Hid (pc ≤ 1024 ∧ p < pc) := Lib.hid (by
            have h1 := HRA.out.room
            rw [HBS.out.2, ← HCC.out] at h1
            have h2 := cntR_pos l
            rw [← HCC.out] at h2
            omega)
          have HNT : Hid ((Value.slice Al m' cl).ownBlock ≠ some T) := Lib.hid (HNB.out _ _ _ _ HOR.out)
          clear hbs hlc hqs hrest hq108 hT7 hN hpc
          go_upto_region 15 with (first
            | (with_reducible refine here_app 59 64 ?_
               refine wpList_append_el1 w7 (.slice (some ⟨g7, 0, none⟩) l cp7) _ rfl (.tmp 59) (.tmp 64) _ rfl w.heap.size 23 r0 _ 24 Tryd.underlying27 hr0 hrz hr1 hr2 rfl HV1.out _ _ _ rfl OR7.out rfl HMB.out.1 HMB.out.2 HZ7.out ?_
               intro v9 w9 own g9
               have O9 := Lib.hid own
               have G9 := Lib.hid g9
               clear own g9))
          have T9 : Hid (Blk w9 T 75 (Hj.v ⟨n', m', p7, c, l⟩)) := Lib.hid ((T7.out.alloc _).grew G9.out HNT.out)
          have d3 : w9.cell? ⟨T, 3, none⟩ = some (.int .i64 (c : Int)) := by rw [T9.out.cell]; rfl
          clear d4
          go_wp2_with (fail)
          have hro := HRO.out
          have hmp := HMP.out
          have hle : m' < rs.length := by
            have h1 := congrArg List.length HQS.out
            rw [List.length_drop, List.length_cons] at h1
            omega
          have hgd : rs.getD m' [] = bs := by
            have h1 := congrArg (fun z => z.getD 0 []) HQS.out
            have h2 : (rs.drop m').getD 0 [] = rs.getD m' [] := by
              rw [List.getD, List.getD, List.getElem?_drop, Nat.add_zero]
            exact h2.symm.trans h1
          have hdr : rs.drop (m' + 1) = qs := by
            have h1 := congrArg (List.drop 1) HQS.out
            rw [List.drop_drop] at h1
            exact h1
          refine ⟨⟨m' + 1, pc, rfl, ⟨?_, hle, ⟨by omega, hro.1⟩, ⟨ls ++ [.slice (some ⟨g7, 0, none⟩) l cp7], by rw [List.length_append, HLS.out]; rfl, O9.out, fun j hj => ?_⟩, ?_⟩⟩, by simp [intOf]; omega⟩
          · rw [hdr, HPC.out]
            exact HRE.out
          · by_cases e : j < ls.length
            · rw [List.getElem_append_left e]
              exact ((RW7.out j e).alloc _).kept G9.out (own_kinds (RW7.out j e) OR7.out (by decide))
            · have ej : j = m' := by rw [List.length_append, HLS.out] at hj; have := HLS.out; simp at hj; omega
              subst ej
              rw [List.getElem_append_right (by rw [HLS.out]; exact Nat.le_refl _)]
              simp only [HLS.out, Nat.sub_self, List.getElem_cons_zero]
              rw [hgd, HBS.out.2]
              exact (O7.out.alloc _).kept G9.out (own_kinds O7.out OR7.out (by decide))
          · have h1 : Below w.heap.size w w7 := HW.out.below.trans ((E6.out.mono HW.out.below.size).trans (CH7.out.below (fun k hk => by rw [hk]; exact HLOW.out.1) (by have := HLOW.out; omega)))
            exact (h1.alloc HZ7.out _).grown G9.out (by rw [World.size_alloc]; have := HZ7.out; omega) (own_ge OR7.out)
        · intro u10 u11 u12 u13 u14 u34 u35 u36 u37 u38 u39 u40 u41 u42 u43 u44 u45 u46 u47 u48 u49 u50 u51 u52 u53 u54 u55 u56 u57 u58 w7 hN
          have HM : Hid (m' = rs.length) := Lib.hid (by
            have h1 := recs_none HW.out.rest (rec_no_part (by have := HMP.out; omega) HG0.out hN.out.1)
            have h2 := congrArg List.length h1
            rw [List.length_drop, List.length_nil] at h2
            have h3 := HW.out.le
            omega)
          have HB : Hid (RsA w7 (.slice Al m' cl) rs ∧ Below w.heap.size w w7) := Lib.hid (by
            have h1 := HW.out
            have h2 := HM.out
            subst h2
            have h3 : Below wr.heap.size wr w7 := E6.out.trans (hN.out.2.below (fun k hk => by rw [hk]; exact HLOW.out.2.1) (by have := HLOW.out; omega))
            exact ⟨h1.rsa.below h3, h1.below.trans (h3.mono h1.below.size)⟩)
          exact HQ.out _ _ _ _ _ _ _ _ _ _ _ _ _ _ _ _ _ _ _ _ _ _ _ _ _ _ _ _ _ _ _ _ _ _ _ _ _ _ _ _ _ _ _ _ _ _ _ _ _ _ _ _ _ _ _ _ _ _ _ _ _ _ _ _ _ _ HB
end Go.Proofs.YtbodiioemohenaaDoor

/- The developers' records and Recover. Premises: the disk's and the slot's contracts. -/
namespace Go.Proofs.YtbodiioemohenaaDoor
open Go.RowKit

/-- A store, its pair and its disk, all blocks of them. -/
def JvAt (DC : DiskW) (SC : SlotC DC) (w : World) (X D : Nat) (Y : Addr) (st : JS) (S : DS) (F : Nat → Prop) : Prop :=
  ∃ F1 F2, JrAt DC w X D (.pointer (some Y)) st S F1 ∧ SC.At w (.pointer (some Y)) (.pointer (some ⟨D, 0, none⟩)) 0 256 F2 ∧ ¬ F2 X ∧ (∀ j, F1 j → ¬ F2 j) ∧ F = fun j => F1 j ∨ (F2 j ∨ j = X)
/-- What a call leaves of them. -/
structure JvLeft (DC : DiskW) (SC : SlotC DC) (w w' : World) (X D : Nat) (Y : Addr) (st : JS) (S : DS) (F : Nat → Prop) : Prop where
  at' : ∃ F', JvAt DC SC w' X D Y st S F' ∧ ∀ j, F' j → F j ∨ w.heap.size ≤ j
  chg : Chg F w w'
set_option maxRecDepth 100000 in
set_option maxHeartbeats 2000000 in
theorem jRecords_any {DC : DiskW} {w : World} {X D : Nat} {pp : Value} {st : JS} {S : DS} {F : Nat → Prop} (h : JrAt DC w X D pp st S F) (n : Nat) (rs : List (List UInt8)) (hr : Recs (viewS S 0) n 0 512 rs) :
    Calls Tryd.prog 32 #[.pointer (some ⟨X, 0, none⟩), .int .u64 (n : Int)] w fun e w' => ∃ v, e = .returned v ∧ RsA w' v rs ∧ Below w.heap.size w w' := by
  have HH := Lib.hid h
  have HR := Lib.hid hr
  clear h hr
  go_enter Tryd.func32, Tryd.ntmps32
  go_wp2_with (fail)
  go_step3
  go_wp2_with (fail)
  go_step3
  go_wp2_with (fail)
  refine jre_loop _ _ _ _ _ _ _ _ _ _ _ _ _ _ _ _ _ _ _ _ _ _ _ _ _ _ _ _ _ _ _ _ _ _ _ _ _ _ _ _ _ _ _ _ _ _ _ _ _ _ _ _ _ _ _ _ _ _ _ _ _ _ _ _ _ _ _ n rs w HH HR (Lib.hid ?_)
  intro u6 u7 u8 u9 u10 u11 u12 u13 u14 u15 u16 u17 u18 u19 u20 u21 u22 u23 u24 u25 u26 u27 u28 u29 u30 u31 u32 u33 u34 u35 u36 u37 u38 u39 u40 u41 u42 u43 u44 u45 u46 u47 u48 u49 u50 u51 u52 u53 u54 u55 u56 u57 u58 u59 u60 u61 u62 u63 u64 u65 u66 u67 u68 u69 v w2 hb
  go_wp2_with (fail)
  rw [Exit.noGoto_ret]
  go_ret
  exact ⟨v, rfl, hb.out.1, hb.out.2⟩
theorem JvAt.both {DC : DiskW} {SC : SlotC DC} {w : World} {X D : Nat} {Y : Addr} {st : JS} {S : DS} {F : Nat → Prop} (h : JvAt DC SC w X D Y st S F) : ∃ G, Both DC SC.At w (.pointer (some Y)) (.pointer (some ⟨D, 0, none⟩)) 0 256 S G ∧ ¬ G X ∧ F = fun j => G j ∨ j = X := by
  obtain ⟨F1, F2, h1, h2, h3, h4, rfl⟩ := h
  refine ⟨fun j => F1 j ∨ F2 j, ⟨F1, F2, h1.dk, h2, h4, rfl⟩, fun e => ?_, ?_⟩
  · rcases e with e | e
    · exact h1.ap X e rfl
    · exact h3 e
  · funext j
    exact propext (or_assoc.symm)
theorem JvAt.pr {DC : DiskW} {SC : SlotC DC} {w : World} {X D : Nat} {Y : Addr} {st : JS} {S : DS} {F : Nat → Prop} (h : JvAt DC SC w X D Y st S F) : Blk w X 51 (jsV (.pointer (some ⟨D, 0, none⟩)) (.pointer (some Y)) st) := by
  obtain ⟨F1, F2, h1, _⟩ := h
  exact h1.pr
theorem JvAt.at1 {DC : DiskW} {SC : SlotC DC} {w : World} {X D : Nat} {Y : Addr} {st : JS} {S : DS} {F : Nat → Prop} (h : JvAt DC SC w X D Y st S F) : ∃ F1, JrAt DC w X D (.pointer (some Y)) st S F1 := by
  obtain ⟨F1, F2, h1, _⟩ := h
  exact ⟨F1, h1⟩
theorem JvAt.lt {DC : DiskW} {SC : SlotC DC} {w : World} {X D : Nat} {Y : Addr} {st : JS} {S : DS} {F : Nat → Prop} (h : JvAt DC SC w X D Y st S F) : ∀ j, F j → j < w.heap.size := by
  obtain ⟨F1, F2, h1, h2, h3, h4, rfl⟩ := h
  intro j hj
  rcases hj with hj | hj | hj
  · exact DC.lt h1.dk j hj
  · exact SC.lt h2 j hj
  · rw [hj]
    exact h1.pr.lt
theorem JvAt.on {DC : DiskW} {SC : SlotC DC} {w w' : World} {X D : Nat} {Y : Addr} {st : JS} {S : DS} {F : Nat → Prop} (h : JvAt DC SC w X D Y st S F) (hb : Below w.heap.size w w') : JvAt DC SC w' X D Y st S F := by
  obtain ⟨F1, F2, h1, h2, h3, h4, rfl⟩ := h
  exact ⟨F1, F2, h1.on hb, SC.other h2 (Chg.of_below hb) fun j hj e => (by have := SC.lt h2 j hj; omega), h3, h4, rfl⟩
set_option maxRecDepth 100000 in
set_option maxHeartbeats 2000000 in
theorem jRecover_any {DC : DiskW} {SC : SlotC DC} {w : World} {X D : Nat} {Y : Addr} {st : JS} {S : DS} {F : Nat → Prop} (h : JvAt DC SC w X D Y st S F) (hs : Salts w) (rs : List (List UInt8)) (hr : ∀ b n s, loadS fp8 S 0 256 = some (b, n, s) → Recs (viewS S 0) n 0 512 rs) :
    Calls Tryd.prog 13 #[.pointer (some ⟨X, 0, none⟩)] w fun e w' => RecovAns w' (loadS fp8 S 0 256) rs e ∧ Below w.heap.size w w' := by
  have HH := Lib.hid h
  have HR := Lib.hid hr
  obtain ⟨G, hB, _⟩ := h.both
  have HN : Hid (Calls Tryd.prog 20 #[.pointer (some ⟨X, 0, none⟩)] w fun e w' => e = .returned (.bool false) ∧ w' = w) := Lib.hid (jIsNone_any h.pr)
  have HL : Hid (Calls Tryd.prog 31 #[.pointer (some Y)] w fun e w' => LoadAns w w' (loadS fp8 S 0 256) e ∧ Below w.heap.size w w') := Lib.hid (SC.load hB hs (by decide) (by decide))
  have c1 : w.cell? ⟨X, 1, none⟩ = some (.pointer (some Y)) := by rw [h.pr.cell]; rfl
  clear h hs hr hB
  go_enter Tryd.func13, Tryd.ntmps13
  go_wp2_with (fail)
  refine HN.out.mono ?_
  rintro e w1 ⟨rfl, rfl⟩
  go_wp2_with (fail)
  refine HL.out.mono ?_
  rintro e w2 ⟨hl, b2⟩
  have B2 := Lib.hid b2
  clear b2
  cases hr : loadS fp8 S 0 256 with
  | none =>
    rw [hr] at hl
    obtain ⟨u, n, rfl⟩ := hl
    have HRL := Lib.hid hr
    clear hr c1
    go_wp2_with (fail)
    go_returns
    rw [HRL.out]
    exact ⟨⟨_, _, rfl⟩, B2.out⟩
  | some r =>
    obtain ⟨b, n, s⟩ := r
    have HRS := Lib.hid (HR.out b n s hr)
    have HRL := Lib.hid hr
    rw [hr] at hl
    obtain ⟨u, rfl, hu, _⟩ := hl
    have RU := Lib.hid hu
    obtain ⟨F1, hA1⟩ := (HH.out.on B2.out).at1
    have HRC := Lib.hid (jRecords_any hA1 n rs HRS.out)
    clear hr hu hA1 c1
    go_wp2_with (fail)
    refine HRC.out.mono ?_
    rintro e w3 ⟨v, rfl, h3, b3⟩
    have R3 := Lib.hid h3
    have B3 := Lib.hid b3
    clear h3 b3
    go_wp2_with (fail)
    go_returns
    rw [HRL.out]
    exact ⟨⟨_, _, rfl, RU.out.below B3.out, R3.out⟩, B2.out.trans (B3.out.mono B2.out.size)⟩
end Go.Proofs.YtbodiioemohenaaDoor
