/- Part 40 of the words that the laws share: SlLayM, SlWip, SlSav, SlK. No condition of its own: each theorem says its own. -/
import Derived.Test.YtbodiioemohenaaDoorPart39
import Derived.Test.YtbodiioemohenaaDoorPart15

/- The developers' lay. Premise: the disk's contracts. -/
namespace Go.Proofs.YtbodiioemohenaaDoor
open Go.RowKit

theorem SlLeft.of {DC : DiskW} {w w0 W : World} {X a k D H : Nat} {S' : DS} {F : Nat → Prop} (hw : Below w.heap.size w w0) (hH : w.heap.size ≤ H) (h1 : ∃ F', SlAt DC W X a k D S' F' ∧ ∀ j, F' j → F j ∨ w0.heap.size ≤ j) (h2 : Chg (fun j => F j ∨ j = H) w0 W) : SlLeft DC w W X a k D S' F := by
  obtain ⟨F', h3, h4⟩ := h1
  refine ⟨⟨F', h3, fun j hj => (h4 j hj).imp id fun h => Nat.le_trans hw.size h⟩, ?_⟩
  refine (chg_below (F := F) hw).trans (h2.mono fun j hj => ?_)
  rcases hj with h | h
  · exact .inl h
  · subst h
    exact .inr hH
set_option maxRecDepth 100000 in
set_option maxHeartbeats 4000000 in
theorem slLay_any {DC : DiskW} {w : World} {X a k D : Nat} {S : DS} {F : Nat → Prop} (h : SlAt DC w X a k D S F) (hs : Salts w) (sl n : Nat) (u : Value) (bs : List UInt8) (hr : Rd w u bs) (hu : 0 < bs.length → ∀ j, u.ownBlock = some j → ¬ F j) (hb : bs.length ≤ 104 * k) (hsl : sl ≤ 1) (hn : n < 256 ^ 8) (hd : S.dead = false) (ho : S.ops < 900000) :
    Calls Tryd.prog 50 #[.pointer (some ⟨X, 0, none⟩), .int .i64 (sl : Int), .int .u64 (n : Int), u] w fun e w' => e = .returned (.int .i64 ((writesS S (a + sl * k) (partsS fp8 bs n)).2 : Int)) ∧ SlLeft DC w w' X a k D (writesS S (a + sl * k) (partsS fp8 bs n)).1 F := by
  obtain ⟨Ab, cb, rfl, hcb, hcm, hA⟩ := hr.form
  have HH := Lib.hid h
  have HR := Lib.hid hr
  have HC : Hid (bs.length ≤ 104 * k ∧ sl ≤ 1 ∧ a + sl * k = a + sl * k ∧ n < 256 ^ 8 ∧ S.dead = false ∧ S.ops < 900000) := Lib.hid ⟨hb, hsl, rfl, hn, hd, ho⟩
  have HRU : Hid (Rd w (.slice Ab bs.length cb) bs ∧ (0 < bs.length → ∀ j, (Value.slice Ab bs.length cb).ownBlock = some j → ¬ F j)) := Lib.hid ⟨hr, hu⟩
  have hroom := h.room
  have lI : (bs.length : Int) ≤ 9223372036854775807 := by omega
  have HP : Hid (∀ W, Calls Tryd.prog 52 #[.int .i64 (bs.length : Int)] W fun e W' => e = .returned (.int .i64 (cntS bs.length : Int)) ∧ W' = W) := Lib.hid fun W => slParts_any bs.length (by omega) W
  obtain ⟨c, hc⟩ : ∃ c, c = cntS bs.length := ⟨_, rfl⟩
  obtain ⟨s, hsm⟩ : ∃ s, s = numB (fp8 bs) := ⟨_, rfl⟩
  rw [← hc] at HP
  have HC0 := Lib.hid hc
  have HS0 := Lib.hid hsm
  have HOF : Hid (∀ W, Below w.heap.size w W → Calls Tryd.prog 62 #[.slice (some ⟨W.heap.size, 0, none⟩) 1 1] (W.alloc (.cells #[.slice Ab bs.length cb] 23)) fun e V' => e = .returned (arrV (shaB bs)) ∧ Below w.heap.size w V') := Lib.hid fun W hW => by
    refine (of_any _ [bs] _ (rs_lone (t := 23) (hr.below hW)) (by simp; omega) (by simp) ((hs.below hW).alloc _)).mono ?_
    rintro e V' ⟨rfl, hb⟩
    rw [List.flatten_singleton]
    exact ⟨rfl, (hW.alloc hW.size _).trans (hb.mono (by have := hW.size; simp; omega))⟩
  have HSH : Hid (∀ W, Below w.heap.size w W → Calls Tryd.prog 61 #[arrV (shaB bs)] W fun e V' => e = .returned (.int .u64 (s : Int)) ∧ Below w.heap.size w V') := Lib.hid fun W hW => by
    refine (short_any (shaB bs) W (by simp [shaB, St.bytes, beB_length])).mono ?_
    rintro e V' ⟨rfl, hb⟩
    rw [hsm]
    exact ⟨rfl, hW.trans (hb.mono hW.size)⟩
  clear h hs hr hu hb hsl hn hd ho hcb hcm hA hc hsm hroom
  go_enter Tryd.func50, Tryd.ntmps50
  go_wp2_with (fail)
  refine (HP.out w).mono ?_
  rintro e w1 ⟨rfl, rfl⟩
  go_wp2_with (fail)
  refine (HOF.out w1 (Below.refl _ _)).mono ?_
  rintro e w2 ⟨rfl, b2⟩
  have B2 := Lib.hid b2
  clear b2
  go_wp2_with (fail)
  refine (HSH.out w2 B2.out).mono ?_
  rintro e w3 ⟨rfl, b3⟩
  have B3 := Lib.hid b3
  obtain ⟨H, hH⟩ : ∃ H, w3.heap.size = H := ⟨_, rfl⟩
  have HHH := Lib.hid hH
  clear b3 hH
  go_upto_region 2 with (first
    | (with_reducible refine here_alloc ?_
       refine wpList_alloc_w rfl 98 rfl hd0.v hd_zero H HHH.out ?_
       intro w4 k4 b4 z4
       have K4 := Lib.hid k4
       have B4 := Lib.hid b4
       have Z4 := Lib.hid z4
       clear k4 b4 z4)
    | (with_reducible refine here_store ?_
       refine wpList_store_blk rfl 98 _ _ rfl H 98 _ K4.out (Hd.v ⟨n, 0, c, bs.length, s⟩) rfl rfl rfl hd_info (hd_one _) ?_
       intro w5 k5 s5
       have K5 := Lib.hid k5
       have B5 := Lib.hid (B4.out.trans s5.below)
       clear k5 s5))
  have c2 : w5.cell? ⟨H, 2, none⟩ = some (.int .i64 (c : Int)) := by rw [K5.out.cell]; rfl
  have HWB : Hid (Below w1.heap.size w1 w5 ∧ w1.heap.size ≤ H) := Lib.hid (by
    have h1 : w1.heap.size ≤ H := by rw [← HHH.out]; exact B3.out.size
    exact ⟨B3.out.trans (B5.out.mono h1), h1⟩)
  go_wp2_with (fail)
  obtain rfl := HC0.out
  refine lay_loop _ _ _ _ _ _ _ _ _ _ _ _ _ _ _ _ _ _ _ _ _ _ _ _ _ _ _ _ _ _ _ _ _ _ _ _ _ _ _ _ _ _ _ _ _ _ _ _ _ _ _ _ H (a + sl * k) n 0 sl bs Ab cb w1 w5 HH HWB (Lib.hid ⟨HC.out.1, HC.out.2.1, rfl, HC.out.2.2.2⟩) HRU (Lib.hid (by rw [← HS0.out]; exact K5.out)) (Lib.hid ?_) (Lib.hid ?_)
  · intro u8 u10 u11 u12 u27 u28 u29 u30 u31 u32 u33 u34 u35 u36 u37 u38 u39 u40 u41 u42 u43 u44 u45 u46 u47 u48 u49 u50 u51 u52 u53 u54 u55 u56 u57 y w6 hl
    have HP2 : Hid (writesS S (a + sl * k) (partsS fp8 bs n) = (writesS S (a + sl * k) ((partsS fp8 bs n).take (cntS bs.length)))) := Lib.hid (by rw [List.take_of_length_le (by rw [partsS_length]; exact Nat.le_refl _)])
    go_wp2_with (fail)
    go_ret
    rw [HP2.out]
    exact ⟨by rw [hl.out.ok]; rfl, SlLeft.of HWB.out.1 HWB.out.2 hl.out.at' hl.out.chg⟩
  · intro u10 u11 u12 u26 u27 u28 u29 u30 u31 u32 u33 u34 u35 u36 u37 u38 u39 u40 u41 u42 u43 u44 u45 u46 u47 u48 u49 u50 u51 u52 u53 u54 u55 u56 u57 y w6 hl
    go_ret
    exact ⟨by rw [← hl.out.ans]; rfl, SlLeft.of HWB.out.1 HWB.out.2 hl.out.at' hl.out.chg⟩
end Go.Proofs.YtbodiioemohenaaDoor

/- The developers' wipe: bytes 00 into the sectors behind the last part. Premise: the disk's contracts. -/
namespace Go.Proofs.YtbodiioemohenaaDoor
open Go.RowKit

structure WipIs (DC : DiskW) (w : World) (X a k D : Nat) (S : DS) (F : Nat → Prop) (q1 : Nat) (zs : List (List UInt8)) (j : Nat) (W : World) : Prop where
  ok : (writesS S q1 (zs.take j)).2 = 0
  on : (writesS S q1 (zs.take j)).1.dead = false
  ops : (writesS S q1 (zs.take j)).1.ops = S.ops + j
  left : SlLeft DC w W X a k D (writesS S q1 (zs.take j)).1 F
structure WipBad (DC : DiskW) (w : World) (X a k D : Nat) (S : DS) (F : Nat → Prop) (q1 : Nat) (zs : List (List UInt8)) (e : Value) (W : World) : Prop where
  ans : e = .int .i64 ((writesS S q1 zs).2 : Int)
  left : SlLeft DC w W X a k D (writesS S q1 zs).1 F
def WipRel (DC : DiskW) (w : World) (X a k D : Nat) (S : DS) (F : Nat → Prop) (q1 c0 : Nat) (zs : List (List UInt8)) (x : Value) (W : World) : Prop := ∃ j : Nat, x = .int .i64 ((c0 + j : Nat) : Int) ∧ c0 + j ≤ k ∧ WipIs DC w X a k D S F q1 zs j W
theorem SlLeft.refl {DC : DiskW} {w : World} {X a k D : Nat} {S : DS} {F : Nat → Prop} (h : SlAt DC w X a k D S F) : SlLeft DC w w X a k D S F := ⟨⟨F, h, fun _ hj => .inl hj⟩, Chg.refl _ _⟩
theorem SlLeft.trans {DC : DiskW} {w w1 w2 : World} {X a k D : Nat} {S2 : DS} {F F1 : Nat → Prop} (hc : Chg F w w1) (hF : ∀ j, F1 j → F j ∨ w.heap.size ≤ j) (h2 : SlLeft DC w1 w2 X a k D S2 F1) : SlLeft DC w w2 X a k D S2 F := by
  obtain ⟨⟨F2, h3, h4⟩, h5⟩ := h2
  exact ⟨⟨F2, h3, fun j hj => (h4 j hj).elim (fun h => hF j h) fun h => .inr (Nat.le_trans hc.size h)⟩, hc.trans (h5.mono fun j hj => hF j hj)⟩
theorem SlLeft.below {DC : DiskW} {w w1 w2 : World} {X a k D : Nat} {S2 : DS} {F : Nat → Prop} (hb : Below w.heap.size w w1) (h2 : SlLeft DC w1 w2 X a k D S2 F) : SlLeft DC w w2 X a k D S2 F := SlLeft.trans (chg_below hb) (fun _ h => .inl h) h2
noncomputable def body_wip : Code := (((Tryd.f51.body.map loopsOf).getD [])[0]?).getD .skip
set_option maxRecDepth 100000 in
set_option maxHeartbeats 4000000 in
theorem wip_loop {DC : DiskW} (c2 c3 c4 c5 c6 c8 c9 c10 c11 c12 c13 c14 c15 c16 c17 c18 c19 c20 c21 c22 c23 c24 c25 c26 c27 c28 c29 : Value) {X a k D : Nat} {S : DS} {F : Nat → Prop} (q0 c0 sl : Nat) (zs : List (List UInt8)) (w : World) (h0 : Hid (SlAt DC w X a k D S F)) (hc : Hid (sl ≤ 1 ∧ q0 = a + sl * k ∧ zs = List.replicate (k - c0) [] ∧ S.dead = false ∧ S.ops < 950000 ∧ c0 ≤ k)) {Q : Exit → Act → World → Prop}
    (HQ : Hid (∀ (u6 u8 u10 u11 u12 u13 u14 u15 u16 u17 u18 u19 u20 u21 u22 u23 u24 u25 u26 u27 u28 u29 y : Value) (W : World), Hid (WipBad DC w X a k D S F (q0 + c0) zs (.int .i64 0) W) → Q (.exit 0) ⟨List.toArray ((.pointer (some ⟨X, 0, none⟩)) :: (.int .i64 (sl : Int)) :: c2 :: c3 :: c4 :: c5 :: u6 :: y :: u8 :: c9 :: u10 :: u11 :: u12 :: u13 :: u14 :: u15 :: u16 :: u17 :: u18 :: u19 :: u20 :: u21 :: u22 :: u23 :: u24 :: u25 :: u26 :: u27 :: u28 :: u29 :: []), []⟩ W))
    (HE : Hid (∀ (u7 u8 u10 u11 u12 u13 u14 u15 u16 u17 u18 u19 u20 u21 u22 u23 u24 u25 u26 u27 u28 u29 v : Value) (W : World), Hid (WipBad DC w X a k D S F (q0 + c0) zs v W) → Q .ret ⟨List.toArray ((.pointer (some ⟨X, 0, none⟩)) :: (.int .i64 (sl : Int)) :: c2 :: c3 :: c4 :: c5 :: v :: u7 :: u8 :: c9 :: u10 :: u11 :: u12 :: u13 :: u14 :: u15 :: u16 :: u17 :: u18 :: u19 :: u20 :: u21 :: u22 :: u23 :: u24 :: u25 :: u26 :: u27 :: u28 :: u29 :: []), []⟩ W)) :
    (Code.loop body_wip).wp Tryd.prog Q ⟨List.toArray ((.pointer (some ⟨X, 0, none⟩)) :: (.int .i64 (sl : Int)) :: c2 :: c3 :: c4 :: c5 :: c6 :: (.int .i64 (c0 : Int)) :: c8 :: c9 :: c10 :: c11 :: c12 :: c13 :: c14 :: c15 :: c16 :: c17 :: c18 :: c19 :: c20 :: c21 :: c22 :: c23 :: c24 :: c25 :: c26 :: c27 :: c28 :: c29 :: []), []⟩ w := by
  unfold body_wip
  conv => arg 2; arg 1; whnf
  go_loopw [7] (fun x wx => WipRel DC w X a k D S F (q0 + c0) c0 zs x wx) (fun x _ => k - (intOf x).toNat)
  case atStart => exact ⟨0, rfl, hc.out.2.2.2.2.2, rfl, hc.out.2.2.2.1, rfl, SlLeft.refl h0.out⟩
  case round =>
    obtain ⟨j, rfl, hj, hl⟩ := hrel
    have hroom := h0.out.room
    obtain ⟨i, hi⟩ : ∃ i, i = c0 + j := ⟨_, rfl⟩
    rw [← hi] at hj ⊢
    have kI : (k : Int) ≤ 1024 := by omega
    have HI := Lib.hid hi
    have HL := Lib.hid hl
    obtain ⟨⟨F', hA, hF'⟩, hch⟩ := hl.left
    have ck : wr.cell? ⟨X, 2, none⟩ = some (.int .i64 (k : Int)) := by rw [hA.pr.cell]; rfl
    by_cases hlt : i < k
    · have iI : (i : Int) < k := by omega
      have HLT := Lib.hid hlt
      obtain ⟨Si, hSi⟩ : ∃ Si, Si = (writesS S (q0 + c0) (zs.take j)).1 := ⟨_, rfl⟩
      have hon := hl.on
      have hops := hl.ops
      rw [← hSi] at hA hon hops
      have hzl : zs.length = k - c0 := by rw [hc.out.2.2.1, List.length_replicate]
      have hjz : j < zs.length := by omega
      have hzj : zs[j] = [] := by
        have h1 := hc.out.2.2.1
        subst h1
        exact List.getElem_replicate _
      obtain ⟨qq, hqq⟩ : ∃ qq, qq = q0 + i := ⟨_, rfl⟩
      have hslk : sl * k ≤ 1 * k := Nat.mul_le_mul hc.out.1 (Nat.le_refl k)
      have hq0 := hc.out.2.1
      have hqq2 : a + sl * k + i = qq := by rw [hqq, hq0]
      obtain ⟨S2, hS2⟩ : ∃ S2, S2 = (writeS Si (qq : Int) []).1 := ⟨_, rfl⟩
      obtain ⟨cd, hcd⟩ : ∃ cd, cd = (writeS Si (qq : Int) []).2 := ⟨_, rfl⟩
      have HNX : Hid (writesS S (q0 + c0) (zs.take (j + 1)) = (S2, cd)) := Lib.hid (by
        rw [writesS_next hjz HL.out.ok, ← hSi, hzj, show q0 + c0 + j = qq by omega, hS2, hcd])
      have HWS : Hid (S2.ops = Si.ops + 1 ∧ ((cd = 10 ∧ S2.dead = true) ∨ (cd = 0 ∧ S2.dead = false))) := Lib.hid (by
        obtain ⟨_, h2, h3⟩ := writeS_is hon (a := qq) (by omega) (x := []) (by decide)
        rw [hS2, hcd]
        exact ⟨h2, h3⟩)
      have HOP : Hid (Si.ops = S.ops + j) := Lib.hid hops
      have AT := Lib.hid hA
      have c0' : ∀ m, (wr.drewN m).cell? ⟨X, 0, none⟩ = some (.pointer (some ⟨D, 0, none⟩)) := fun m => by rw [(hA.pr.drewN m).cell]; rfl
      have HSC : Hid (∀ W, Blk W X 72 (prV (.pointer (some ⟨D, 0, none⟩)) a k) → Calls Tryd.prog 59 #[.pointer (some ⟨X, 0, none⟩), .int .i64 (sl : Int), .int .i64 (i : Int)] W fun e W' => e = .returned (.int .i64 (qq : Int)) ∧ ∃ m, W' = W.drewN m) := Lib.hid fun W hW => by
        have h1 := slSector_any hW sl i hc.out.1 (by omega) (by omega) (by omega)
        rw [hqq2] at h1
        exact h1
      have C3 : Hid (∀ m, Calls Tryd.prog 37 #[.pointer (some ⟨D, 0, none⟩), .int .i64 (qq : Int), .slice none 0 0] (wr.drewN m) fun e V' => e = .returned (.int .i64 (cd : Int)) ∧ SlLeft DC wr V' X a k D S2 F') := Lib.hid fun m => by
        have h1 := AT.out.on (below_drewN (Below.refl _ wr) m)
        refine (DC.write h1.dk (qq : Int) (.slice none 0 0) [] (WalkArith.wf_i64 (by omega)) (Rd.nil _) (by decide) (by have := hc.out.2.2.2.2.1; omega) fun h => by cases h).mono ?_
        rintro e V' ⟨rfl, hl⟩
        rw [← hcd, hS2]
        exact ⟨rfl, SlLeft.below (below_drewN (Below.refl _ wr) m) (h1.left hl)⟩
      have HFF : Hid ((∀ j, F' j → F j ∨ w.heap.size ≤ j) ∧ Chg F w wr) := Lib.hid ⟨hF', hch⟩
      clear hl hroom hi hlt hj hA hF' hch hSi hon hops hzl hjz hzj hqq hslk hq0 hqq2 hS2 hcd
      go_wp2_with (fail)
      clear ck
      refine wp_quiet_tail 8 (by kernel_rfl) (by kernel_rfl) (by kernel_rfl) (by kernel_rfl) (by kernel_rfl) (by kernel_rfl) (by kernel_rfl) (by kernel_rfl) ?_
      simp only [List.take_succ_cons, List.take_zero, List.drop_succ_cons, List.drop_zero]
      repeat (go_big_quiet_step ((go_at_call 59; exact Calls.quiet_of (HSC.out _ (AT.out.pr.drewN _)))))
      refine wpQuiet_nil ?_
      intro wq hwq
      obtain ⟨nq, rfl⟩ := hwq
      clear c0'
      go_wp2_with (fail)
      refine (C3.out nq).mono ?_
      rintro e w4 ⟨rfl, l4⟩
      have L4 := Lib.hid (SlLeft.trans HFF.out.2 HFF.out.1 l4)
      clear l4
      obtain ⟨hso, hcs⟩ := HWS.out
      rcases hcs with ⟨rfl, hd⟩ | ⟨rfl, hd⟩
      · have HB : Hid (WipBad DC w X a k D S F (q0 + c0) zs (.int .i64 10) w4) := Lib.hid (by
          have h1 : (writesS S (q0 + c0) (zs.take (j + 1))).2 ≠ 0 := by rw [HNX.out]; exact (show (10 : Nat) ≠ 0 by decide)
          have h2 := writesS_fail h1
          rw [HNX.out] at h2
          exact ⟨by rw [h2]; rfl, by rw [h2]; exact L4.out⟩)
        clear hso hd
        go_wp2_with (fail)
        exact HE.out _ _ _ _ _ _ _ _ _ _ _ _ _ _ _ _ _ _ _ _ _ _ _ _ HB
      · have HSO := Lib.hid hso
        have HD := Lib.hid hd
        clear hso hd
        go_wp2_with (fail)
        have hl := HLT.out
        have hi := HI.out
        refine ⟨⟨j + 1, by go_num, by omega, ?_, ?_, ?_, ?_⟩, by simp [intOf]; omega⟩
        · rw [HNX.out]
        · rw [HNX.out]
          exact HD.out
        · rw [HNX.out]
          show S2.ops = _
          rw [HSO.out, HOP.out]
          omega
        · rw [HNX.out]
          exact L4.out
    · have HB : Hid (WipBad DC w X a k D S F (q0 + c0) zs (.int .i64 0) wr) := Lib.hid (by
        have h1 : zs.take j = zs := List.take_of_length_le (by rw [hc.out.2.2.1, List.length_replicate]; omega)
        have h2 := hl.ok
        have h3 := hl.left
        rw [h1] at h2 h3
        exact ⟨by rw [h2]; rfl, h3⟩)
      clear hl hA hF' hch hi
      have hik : ¬ (i : Int) < k := by omega
      go_wp2_with (fail)
      exact HQ.out _ _ _ _ _ _ _ _ _ _ _ _ _ _ _ _ _ _ _ _ _ _ _ _ HB
end Go.Proofs.YtbodiioemohenaaDoor

/- The developers' wipe and save, of a pair that is one. Premise: the disk's contracts. -/
namespace Go.Proofs.YtbodiioemohenaaDoor
open Go.RowKit

set_option maxRecDepth 100000 in
set_option maxHeartbeats 2000000 in
theorem slWipe_any {DC : DiskW} {w : World} {X a k D : Nat} {S : DS} {F : Nat → Prop} (h : SlAt DC w X a k D S F) (sl c : Nat) (hsl : sl ≤ 1) (hc : c ≤ k) (hd : S.dead = false) (ho : S.ops < 950000) :
    Calls Tryd.prog 51 #[.pointer (some ⟨X, 0, none⟩), .int .i64 (sl : Int), .int .i64 (c : Int)] w fun e w' => e = .returned (.int .i64 ((writesS S (a + sl * k + c) (List.replicate (k - c) [])).2 : Int)) ∧ SlLeft DC w w' X a k D (writesS S (a + sl * k + c) (List.replicate (k - c) [])).1 F := by
  have HH := Lib.hid h
  have HC : Hid (sl ≤ 1 ∧ S.dead = false ∧ S.ops < 950000 ∧ c ≤ k) := Lib.hid ⟨hsl, hd, ho, hc⟩
  clear h hsl hc hd ho
  go_enter Tryd.func51, Tryd.ntmps51
  go_wp2_with (fail)
  refine wip_loop _ _ _ _ _ _ _ _ _ _ _ _ _ _ _ _ _ _ _ _ _ _ _ _ _ _ _ (a + sl * k) c sl (List.replicate (k - c) []) w HH (Lib.hid ⟨HC.out.1, rfl, rfl, HC.out.2.1, HC.out.2.2.1, HC.out.2.2.2⟩) (Lib.hid ?_) (Lib.hid ?_)
  · intro u6 u8 u10 u11 u12 u13 u14 u15 u16 u17 u18 u19 u20 u21 u22 u23 u24 u25 u26 u27 u28 u29 y w6 hl
    go_wp2_with (fail)
    go_ret
    exact ⟨by rw [← hl.out.ans]; rfl, hl.out.left⟩
  · intro u7 u8 u10 u11 u12 u13 u14 u15 u16 u17 u18 u19 u20 u21 u22 u23 u24 u25 u26 u27 u28 u29 y w6 hl
    go_ret
    exact ⟨by rw [← hl.out.ans]; rfl, hl.out.left⟩
theorem sync_cd (S : DS) : (syncS S).2 = 0 ∨ (syncS S).2 = 10 := by
  unfold syncS
  split
  · exact .inr rfl
  · dsimp only
    split
    · exact .inr rfl
    · exact .inl rfl
set_option maxRecDepth 100000 in
set_option maxHeartbeats 4000000 in
theorem slSave_any {DC : DiskW} {w : World} {X a k D : Nat} {S : DS} {F : Nat → Prop} (h : SlAt DC w X a k D S F) (hs : Salts w) (u : Value) (bs : List UInt8) (hr : Rd w u bs) (hu : 0 < bs.length → ∀ j, u.ownBlock = some j → ¬ F j) (hb : bs.length ≤ 104 * k) (hd : S.dead = false) (hm : mostS S a k < 2000000) (ho : S.ops < 200000) (wiped : Bool) :
    Calls Tryd.prog 36 #[.pointer (some ⟨X, 0, none⟩), u, .bool wiped] w fun e w' => ∃ n, e = .returned (.tuple #[n, .int .i64 ((saveS fp8 S a k bs wiped).2 : Int)]) ∧ ((saveS fp8 S a k bs wiped).2 = 0 → n = .int .u64 ((mostS S a k + 1 : Nat) : Int)) ∧ SlLeft DC w w' X a k D (saveS fp8 S a k bs wiped).1 F := by
  obtain ⟨Ab, cb, rfl, hcb, hcm, hA⟩ := hr.form
  obtain ⟨m, hmm⟩ : ∃ m, m = mostS S a k := ⟨_, rfl⟩
  rw [← hmm] at hm ⊢
  obtain ⟨sl, hsl⟩ : ∃ sl, sl = 1 - slotN (loadS fp8 S a k) := ⟨_, rfl⟩
  have hroom := h.room
  have hk1 := h.k1
  have hsl1 : sl ≤ 1 := by omega
  obtain ⟨r0, hr0⟩ : ∃ r0, r0 = writesS S (a + sl * k) (partsS fp8 bs (m + 1)) := ⟨_, rfl⟩
  have hcnt := cntS_le hb hk1
  have hslk : sl * k ≤ 1 * k := Nat.mul_le_mul hsl1 (Nat.le_refl k)
  obtain ⟨j0, _, _, hops0, hcd0⟩ := writesS_is (partsS fp8 bs (m + 1)) S (a + sl * k) hd (by rw [partsS_length]; omega) (fun x hx => by
    unfold partsS at hx
    obtain ⟨i, _, rfl⟩ := List.mem_map.1 hx
    exact partS_length fp8 fp8_length bs _ _)
  rw [← hr0, partsS_length] at hops0
  rw [← hr0] at hcd0
  have hsv : saveS fp8 S a k bs wiped = (let r := if r0.2 = 0 then writesS r0.1 (a + sl * k + cntS bs.length) (if wiped then List.replicate (k - cntS bs.length) [] else []) else r0; if r.2 = 0 then syncS r.1 else r) := by
    unfold saveS laidS
    rw [← hmm, ← hsl, Nat.mul_comm k sl, writesS_append, ← hr0, partsS_length]
  obtain ⟨S0, cd0⟩ := r0
  have hops0 : S0.ops ≤ S.ops + cntS bs.length := hops0
  have hcd0 : (cd0 = 0 ∧ S0.dead = false ∧ j0 = _) ∨ (cd0 = 10 ∧ S0.dead = true) := hcd0
  obtain ⟨r1, hr1⟩ : ∃ r1, r1 = writesS S0 (a + sl * k + cntS bs.length) (List.replicate (k - cntS bs.length) []) := ⟨_, rfl⟩
  have hsv : saveS fp8 S a k bs wiped = (let r := if cd0 = 0 then (if wiped then r1 else (S0, 0)) else (S0, cd0); if r.2 = 0 then syncS r.1 else r) := by
    rw [hsv, hr1]
    cases wiped <;> rfl
  have HSV := Lib.hid hsv
  have HH := Lib.hid h
  have HS := Lib.hid hs
  have HR := Lib.hid hr
  have HU := Lib.hid hu
  have HB : Hid (bs.length ≤ 104 * k ∧ sl ≤ 1 ∧ m + 1 < 256 ^ 8 ∧ S.dead = false ∧ S.ops < 200000 ∧ cntS bs.length ≤ k ∧ k ≤ 1024 ∧ bs.length ≤ 4294967296) := Lib.hid ⟨hb, hsl1, by omega, hd, ho, hcnt, by omega, by omega⟩
  have HCD : Hid ((cd0 = 0 ∧ S0.dead = false) ∨ cd0 = 10) := Lib.hid (by
    rcases hcd0 with ⟨h1, h2, _⟩ | ⟨h1, _⟩
    · exact .inl ⟨h1, h2⟩
    · exact .inr h1)
  have HLAY : Hid (∀ W, Below w.heap.size w W → ∀ x : Int, x = (sl : Int) → Calls Tryd.prog 50 #[.pointer (some ⟨X, 0, none⟩), .int .i64 x, .int .u64 ((m + 1 : Nat) : Int), .slice Ab bs.length cb] W fun e W' => e = .returned (.int .i64 (cd0 : Int)) ∧ SlLeft DC w W' X a k D S0 F) := Lib.hid fun W hW x hx => by
    subst hx
    refine (slLay_any (h.on hW) (hs.below hW) sl (m + 1) _ bs (hr.below hW) hu hb hsl1 (by omega) hd (by omega)).mono ?_
    rintro e W' ⟨rfl, hl⟩
    rw [← hr0] at hl ⊢
    exact ⟨rfl, SlLeft.below hW hl⟩
  have HWIP : Hid (∀ W, SlLeft DC w W X a k D S0 F → S0.dead = false → ∀ x : Int, x = (sl : Int) → Calls Tryd.prog 51 #[.pointer (some ⟨X, 0, none⟩), .int .i64 x, .int .i64 (cntS bs.length : Int)] W fun e W' => e = .returned (.int .i64 (r1.2 : Int)) ∧ SlLeft DC w W' X a k D r1.1 F) := Lib.hid fun W hW hd0 x hx => by
    subst hx
    obtain ⟨⟨F', h1, h2⟩, h3⟩ := hW
    refine (slWipe_any h1 sl (cntS bs.length) hsl1 hcnt hd0 (by omega)).mono ?_
    rintro e W' ⟨rfl, hl⟩
    rw [← hr1] at hl ⊢
    exact ⟨rfl, SlLeft.trans h3 h2 hl⟩
  have HR1 : Hid (S0.dead = false → r1.1.ops ≤ 400000 ∧ (r1.2 = 0 ∨ r1.2 = 10)) := Lib.hid fun hd0 => by
    obtain ⟨_, _, _, h1, h2⟩ := writesS_is (List.replicate (k - cntS bs.length) []) S0 (a + sl * k + cntS bs.length) hd0 (by rw [List.length_replicate]; omega) (fun x hx => by rw [List.eq_of_mem_replicate hx]; decide)
    rw [← hr1, List.length_replicate] at h1
    rw [← hr1] at h2
    exact ⟨by omega, h2.elim (fun h => .inl h.1) fun h => .inr h.1⟩
  have HS0O : Hid (S0.ops ≤ 400000) := Lib.hid (by omega)
  have HSYN : Hid (∀ W S', SlLeft DC w W X a k D S' F → S'.ops ≤ 400000 → Calls Tryd.prog 26 #[.pointer (some ⟨D, 0, none⟩)] W fun e W' => e = .returned (.int .i64 ((syncS S').2 : Int)) ∧ SlLeft DC w W' X a k D (syncS S').1 F) := Lib.hid fun W S' hW hS' => by
    obtain ⟨⟨F', h1, h2⟩, h3⟩ := hW
    refine (DC.sync h1.dk (by omega)).mono ?_
    rintro e W' ⟨rfl, hl⟩
    exact ⟨rfl, SlLeft.trans h3 h2 (h1.left hl)⟩
  have HGR : Hid (∀ W, Below w.heap.size w W → Calls Tryd.prog 49 #[.pointer (some ⟨X, 0, none⟩)] W fun e W' => e = .returned (.int .u64 (m : Int)) ∧ Below w.heap.size w W') := Lib.hid fun W hW => by
    refine (slGreatest_any (h.on hW)).mono ?_
    rintro e W' ⟨rfl, hb⟩
    rw [hmm]
    exact ⟨rfl, hW.trans (hb.mono hW.size)⟩
  have ck : w.cell? ⟨X, 2, none⟩ = some (.int .i64 (k : Int)) := by rw [h.pr.cell]; rfl
  have kI : (k : Int) ≤ 1024 := by omega
  have e1 : IntKind.i64.wrap ((k : Int) * 104) = ((k * 104 : Nat) : Int) := by rw [IntWalk.i64_in _ (by omega)]; omega
  obtain ⟨k4, hk4⟩ : ∃ k4, k4 = k * 104 := ⟨_, rfl⟩
  rw [← hk4] at e1
  have g1 : decide ((k4 : Int) < (bs.length : Int)) = false := decide_eq_false (by omega)
  have g1' : decide (k4 < bs.length) = false := decide_eq_false (by omega)
  obtain ⟨n, hn⟩ : ∃ n, n = m + 1 := ⟨_, rfl⟩
  have e2 : IntKind.u64.wrap ((m : Int) + 1) = (n : Int) := by rw [IntWalk.u64_in _ (by omega)]; omega
  have g2 : decide ((4611686018427387904 : Int) ≤ (m : Int)) = false := decide_eq_false (by omega)
  have g2' : decide (4611686018427387904 ≤ m) = false := decide_eq_false (by omega)
  rw [← hn] at HB HLAY ⊢
  have HSL := Lib.hid hsl
  have cks : ∀ m, (w.drewN m).cell? ⟨X, 2, none⟩ = some (.int .i64 (k : Int)) := fun m => ck
  clear hk4 hn
  clear h hs hr hu hb hd hm ho hcb hcm hA hmm hsl hroom hk1 hsl1 hr0 hcnt hslk hops0 hcd0 hsv hr1
  go_enter Tryd.func36, Tryd.ntmps36
  go_wp2_with (fail)
  refine (slIsNone_any HH.out.pr).mono ?_
  rintro e w1 ⟨rfl, rfl⟩
  go_wp2_with (fail)
  refine (HGR.out w1 (Below.refl _ _)).mono ?_
  rintro e w2 ⟨rfl, b2⟩
  have B2 := Lib.hid b2
  clear b2
  go_wp2_with (fail)
  refine (slNewest_any (HH.out.on B2.out) (HS.out.below B2.out)).mono ?_
  rintro e w3 ⟨ha, hb⟩
  have B3 := Lib.hid (B2.out.trans (hb.mono B2.out.size))
  obtain ⟨C, hC⟩ : ∃ C, w3.heap.size = C := ⟨_, rfl⟩
  have HC := Lib.hid hC
  clear hb hC g1 g1' g2 g2' e1 e2 ck cks
  cases hr : loadS fp8 S a k
  case' none =>
    have HX : Hid ((0 : Int) = (sl : Int)) := Lib.hid (by
      have h1 := HSL.out
      rw [hr] at h1
      have h1 : sl = 1 - 1 := h1
      omega)
    rw [hr] at ha
    obtain rfl := ha
    clear hr
    go_wp2_with (first
      | (with_reducible refine here_alloc ?_
         refine wpList_alloc_w rfl 82 rfl (wholeV 0 0 (.slice none 0 0)) whole_zero C HC.out ?_
         intro w4 k4 b4 z4
         have K4 := Lib.hid k4
         have B4 := Lib.hid b4
         clear k4 b4 z4)
      | (with_reducible refine here_store ?_
         refine wpList_store_blk rfl 82 _ _ rfl C 82 _ K4.out (wholeV 0 0 (.slice none 0 0)) rfl rfl rfl whole_info (wholeV_one rfl) ?_
         intro w5 k5 s5
         have B5 := Lib.hid (B4.out.trans s5.below)
         clear k5 s5))
    have E5 : Hid (Below w1.heap.size w1 w5) := Lib.hid (B3.out.trans (B5.out.mono (by rw [← HC.out]; exact B3.out.size)))
    refine (HLAY.out w5 E5.out _ HX.out).mono ?_
  case' some r =>
    obtain ⟨b, nn, sw⟩ := r
    have hsw : sw = 0 ∨ sw = 1 := by
      have h1 := slotN_01 (fp := fp8) (S := S) (a := a) (k := k)
      rw [hr] at h1
      exact h1
    have HX : Hid (sl = 1 - sw) := Lib.hid (by
      have h1 := HSL.out
      rw [hr] at h1
      exact h1)
    rw [hr] at ha
    obtain ⟨ub, rfl, h3, h4⟩ := ha
    have R2 := Lib.hid h3
    have e5 : IntKind.i64.wrap (1 - (sw : Int)) = (sl : Int) := by
      rw [IntWalk.i64_in _ (by omega), HX.out]
      omega
    have HSW := Lib.hid hsw
    clear hr h3 h4 hsw
    go_upto_region 12 with (first
      | (with_reducible refine here_alloc ?_
         refine wpList_alloc_w rfl 82 rfl (wholeV 0 0 (.slice none 0 0)) whole_zero C HC.out ?_
         intro w4 k4 b4 z4
         have K4 := Lib.hid k4
         have B4 := Lib.hid b4
         clear k4 b4 z4)
      | (with_reducible refine here_store ?_
         refine wpList_store_blk rfl 82 _ _ rfl C 82 _ K4.out (wholeV sw nn ub) rfl rfl rfl whole_info (wholeV_one (rd_slice R2.out)) ?_
         intro w5 k5 s5
         have K5 := Lib.hid k5
         have B5 := Lib.hid (B4.out.trans s5.below)
         clear k5 s5))
    have E5 : Hid (Below w1.heap.size w1 w5) := Lib.hid (B3.out.trans (B5.out.mono (by rw [← HC.out]; exact B3.out.size)))
    have c5 : w5.cell? ⟨C, 0, none⟩ = some (.int .i64 (sw : Int)) := by rw [K5.out.cell]; rfl
    go_wp2_with (fail)
    clear e5 c5
    refine (HLAY.out w5 E5.out _ rfl).mono ?_
  all_goals
    rintro e w6 ⟨rfl, l6⟩
    have L6 := Lib.hid l6
    clear l6
    rcases HCD.out with ⟨rfl, hd0⟩ | rfl
    · have HD0 := Lib.hid hd0
      clear hd0
      cases wiped with
      | false =>
        have HE1 : Hid (saveS fp8 S a k bs false = syncS S0) := Lib.hid (by rw [HSV.out]; rfl)
        obtain ⟨Fx, hx, _⟩ := L6.out.at'
        have cx : w6.cell? ⟨X, 0, none⟩ = some (.pointer (some ⟨D, 0, none⟩)) := by rw [hx.pr.cell]; rfl
        clear hx
        obtain ⟨cd1, hcd1⟩ : ∃ c, c = (syncS S0).2 := ⟨_, rfl⟩
        have hsy := HSYN.out w6 S0 L6.out HS0O.out
        rw [← hcd1] at hsy
        have h01 : cd1 = 0 ∨ cd1 = 10 := hcd1 ▸ sync_cd S0
        have HSY := Lib.hid hsy
        have H01 := Lib.hid h01
        have HCD1 := Lib.hid hcd1
        clear hsy h01 hcd1
        go_wp2_with (fail)
        refine HSY.out.mono ?_
        rintro e w8 ⟨rfl, l8⟩
        have L8 := Lib.hid l8
        clear l8
        rcases H01.out with rfl | rfl
        · go_wp2_with (fail)
          go_ret2
          exact ⟨.int .u64 (n : Int), by rw [HE1.out, ← HCD1.out]; rfl, fun _ => rfl, by rw [HE1.out]; exact L8.out⟩
        · go_wp2_with (fail)
          go_ret2
          refine ⟨.int .u64 0, by rw [HE1.out, ← HCD1.out]; rfl, fun h => ?_, by rw [HE1.out]; exact L8.out⟩
          rw [HE1.out, ← HCD1.out] at h
          cases h
      | true =>
        have h1 := HR1.out HD0.out
        obtain ⟨S1, c1⟩ := r1
        have HS1O : Hid (S1.ops ≤ 400000) := Lib.hid h1.1
        have hc1 : c1 = 0 ∨ c1 = 10 := h1.2
        have HC1 := Lib.hid hc1
        have HPA : Hid (∀ W, Calls Tryd.prog 52 #[.int .i64 (bs.length : Int)] W fun e W' => e = .returned (.int .i64 (cntS bs.length : Int)) ∧ W' = W) := Lib.hid fun W => slParts_any bs.length HB.out.2.2.2.2.2.2.2 W
        clear h1 hc1
        go_wp2_with (fail)
        refine (HPA.out w6).mono ?_
        rintro e w6' ⟨rfl, rfl⟩
        go_wp2_with (fail)
        refine (HWIP.out w6' L6.out HD0.out _ ?_).mono ?_
        · first | exact HX.out | rfl
        rintro e w7 ⟨rfl, l7⟩
        have L7 := Lib.hid l7
        clear l7
        rcases HC1.out with rfl | rfl
        · have HE1 : Hid (saveS fp8 S a k bs true = syncS S1) := Lib.hid (by rw [HSV.out]; rfl)
          obtain ⟨Fx, hx, _⟩ := L7.out.at'
          have cx : w7.cell? ⟨X, 0, none⟩ = some (.pointer (some ⟨D, 0, none⟩)) := by rw [hx.pr.cell]; rfl
          clear hx
          obtain ⟨cd1, hcd1⟩ : ∃ c, c = (syncS S1).2 := ⟨_, rfl⟩
          have hsy := HSYN.out w7 S1 L7.out HS1O.out
          rw [← hcd1] at hsy
          have h01 : cd1 = 0 ∨ cd1 = 10 := hcd1 ▸ sync_cd S1
          have HSY := Lib.hid hsy
          have H01 := Lib.hid h01
          have HCD1 := Lib.hid hcd1
          clear hsy h01 hcd1
          go_wp2_with (fail)
          refine HSY.out.mono ?_
          rintro e w8 ⟨rfl, l8⟩
          have L8 := Lib.hid l8
          clear l8
          rcases H01.out with rfl | rfl
          · go_wp2_with (fail)
            go_ret2
            exact ⟨.int .u64 (n : Int), by rw [HE1.out, ← HCD1.out]; rfl, fun _ => rfl, by rw [HE1.out]; exact L8.out⟩
          · go_wp2_with (fail)
            go_ret2
            refine ⟨.int .u64 0, by rw [HE1.out, ← HCD1.out]; rfl, fun h => ?_, by rw [HE1.out]; exact L8.out⟩
            rw [HE1.out, ← HCD1.out] at h
            cases h
        · have HE1 : Hid (saveS fp8 S a k bs true = (S1, 10)) := Lib.hid (by rw [HSV.out]; rfl)
          go_wp2_with (fail)
          go_ret2
          refine ⟨.int .u64 0, by rw [HE1.out]; rfl, fun h => ?_, by rw [HE1.out]; exact L7.out⟩
          rw [HE1.out] at h
          cases h
    · have HE1 : Hid (saveS fp8 S a k bs wiped = (S0, 10)) := Lib.hid (by rw [HSV.out]; rfl)
      go_wp2_with (fail)
      go_ret2
      refine ⟨.int .u64 0, by rw [HE1.out]; rfl, fun h => ?_, by rw [HE1.out]; exact L6.out⟩
      rw [HE1.out] at h
      cases h
end Go.Proofs.YtbodiioemohenaaDoor

/- The developers' Save, Wipe, Open: of a pair that is one, and of one that is none. Premise: the disk's contracts. -/
namespace Go.Proofs.YtbodiioemohenaaDoor
open Go.RowKit

theorem save_any_cases {S : DS} {a k : Nat} {bs : List UInt8} {wiped : Bool} (hd : S.dead = false) (h1 : 1 ≤ k) (h2 : a + 2 * k ≤ 1024) (hb : bs.length ≤ 104 * k) (hm : mostS S a k < 256 ^ 8 - 1) (he : (saveS fp8 S a k bs wiped).2 = 0) :
    (saveS fp8 S a k bs wiped).1.dead = false ∧ (saveS fp8 S a k bs wiped).1.ops ≤ S.ops + k + 1 ∧ mostS (saveS fp8 S a k bs wiped).1 a k ≤ mostS S a k + 1 := by
  have hr := at_room fp8 S h2
  have hcnt := cntS_le hb h1
  have hlen := laidS_length (fp := fp8) (n := mostS S a k + 1) (wiped := wiped) hcnt
  obtain ⟨j, k1, k2, k3, k4⟩ := writesS_is (laidS fp8 bs (mostS S a k + 1) k wiped) S (a + k * (1 - slotN (loadS fp8 S a k))) hd (by omega) (laidS_short fp8_length)
  have hsv : (saveS fp8 S a k bs wiped).1.dead = false ∧ (saveS fp8 S a k bs wiped).1.ops ≤ S.ops + k + 1 ∧ (saveS fp8 S a k bs wiped).1.L = (writesL S.L (a + k * (1 - slotN (loadS fp8 S a k))) (laidS fp8 bs (mostS S a k + 1) k wiped)).map safeP := by
    unfold saveS at he ⊢
    generalize hg : writesS S (a + k * (1 - slotN (loadS fp8 S a k))) (laidS fp8 bs (mostS S a k + 1) k wiped) = r at k2 k3 k4 he
    dsimp only at he ⊢
    rcases k4 with ⟨k5, k6, k7⟩ | ⟨k5, k6⟩
    · rw [if_pos k5] at he ⊢
      rw [k7, List.take_of_length_le (Nat.le_refl _)] at k2
      unfold syncS at he ⊢
      rw [if_neg (by rw [k6]; decide)] at he ⊢
      dsimp only at he ⊢
      rcases burn_dead r.1 k6 with ⟨h3, h4⟩ | ⟨h3, h4⟩
      · rw [if_pos h3] at he
        cases he
      · rw [if_neg (by rw [h3]; decide)]
        refine ⟨h4, ?_, ?_⟩
        · show (burnS r.1).1.ops ≤ _
          rw [burnS_ops]
          omega
        · show ((burnS r.1).1.L).map safeP = _
          rw [burnS_L, k2]
    · rw [if_neg (by rw [k5]; decide)] at he
      rw [k5] at he
      cases he
  obtain ⟨h4, h5, h6⟩ := hsv
  refine ⟨h4, h5, ?_⟩
  generalize saveS fp8 S a k bs wiped = T at h4 h5 h6
  have hv := fun b i => view_safe S T.1 rfl (a + k * (1 - slotN (loadS fp8 S a k))) _ h6 b i
  refine most_le fun i x hi hx => ?_
  rw [hv] at hx
  split at hx
  · injection hx with hx
    rw [← hx]
    exact laid_some fp8_length (by omega)
  · have := most_ge hi hx
    omega
set_option maxRecDepth 100000 in
set_option maxHeartbeats 1000000 in
theorem slSaveX_any {DC : DiskW} {w : World} {X a k D : Nat} {S : DS} {F : Nat → Prop} (h : SlAt DC w X a k D S F) (hs : Salts w) (u : Value) (bs : List UInt8) (hr : Rd w u bs) (hu : 0 < bs.length → ∀ j, u.ownBlock = some j → ¬ F j) (hb : bs.length ≤ 104 * k) (hd : S.dead = false) (hm : mostS S a k < 1000000) (ho : S.ops < 200000) :
    Calls Tryd.prog 21 #[.pointer (some ⟨X, 0, none⟩), u] w fun e w' => ∃ n, e = .returned (.tuple #[n, .int .i64 ((saveS fp8 S a k bs false).2 : Int)]) ∧ ((saveS fp8 S a k bs false).2 = 0 → n = .int .u64 ((mostS S a k + 1 : Nat) : Int)) ∧ SlLeft DC w w' X a k D (saveS fp8 S a k bs false).1 F := by
  have HC := Lib.hid (slSave_any h hs u bs hr hu hb hd (by omega) ho false)
  obtain ⟨cd, hcd⟩ : ∃ cd, cd = (saveS fp8 S a k bs false).2 := ⟨_, rfl⟩
  obtain ⟨S', hS'⟩ : ∃ S', S' = (saveS fp8 S a k bs false).1 := ⟨_, rfl⟩
  obtain ⟨m, hmm⟩ : ∃ m, m = mostS S a k + 1 := ⟨_, rfl⟩
  rw [← hcd, ← hS', ← hmm] at HC ⊢
  clear h hs hr hu hb hd hm ho hcd hS' hmm
  go_enter Tryd.func21, Tryd.ntmps21
  go_wp2_with (fail)
  refine HC.out.mono ?_
  rintro e w1 ⟨n, rfl, hn, hl⟩
  have HN := Lib.hid hn
  have HL := Lib.hid hl
  clear hn hl
  go_wp2_with (fail)
  go_ret2
  exact ⟨n, rfl, HN.out, HL.out⟩
set_option maxRecDepth 100000 in
set_option maxHeartbeats 1000000 in
theorem slWipeX_any {DC : DiskW} {w : World} {X a k D : Nat} {S : DS} {F : Nat → Prop} (h : SlAt DC w X a k D S F) (hs : Salts w) (hF : ∀ j, F j → 0 < j) (u : Value) (bs : List UInt8) (hr : Rd w u bs) (hu : 0 < bs.length → ∀ j, u.ownBlock = some j → ¬ F j) (hb : bs.length ≤ 104 * k) (hd : S.dead = false) (hm : mostS S a k < 1000000) (ho : S.ops < 100000) (he : (saveS fp8 S a k bs true).2 = 0) :
    Calls Tryd.prog 33 #[.pointer (some ⟨X, 0, none⟩), u] w fun e w' => ∃ n, e = .returned (.tuple #[n, .int .i64 ((saveS fp8 (saveS fp8 S a k bs true).1 a k bs true).2 : Int)]) ∧ ((saveS fp8 (saveS fp8 S a k bs true).1 a k bs true).2 = 0 → n = .int .u64 ((mostS (saveS fp8 S a k bs true).1 a k + 1 : Nat) : Int)) ∧ SlLeft DC w w' X a k D (saveS fp8 (saveS fp8 S a k bs true).1 a k bs true).1 F := by
  have hsa := save_any_cases hd h.k1 h.room hb (by omega) he
  have HC := Lib.hid (slSave_any h hs u bs hr hu hb hd (by omega) (by omega) true)
  obtain ⟨cd, hcd⟩ : ∃ cd, cd = (saveS fp8 S a k bs true).2 := ⟨_, rfl⟩
  obtain ⟨S', hS'⟩ : ∃ S', S' = (saveS fp8 S a k bs true).1 := ⟨_, rfl⟩
  rw [← hcd, ← hS'] at HC
  rw [← hS'] at hsa ⊢
  have hcd0 : cd = 0 := hcd.trans he
  subst hcd0
  have hroom := h.room
  have HC2 : Hid (∀ W, SlLeft DC w W X a k D S' F → Calls Tryd.prog 36 #[.pointer (some ⟨X, 0, none⟩), u, .bool true] W fun e w' => ∃ n, e = .returned (.tuple #[n, .int .i64 ((saveS fp8 S' a k bs true).2 : Int)]) ∧ ((saveS fp8 S' a k bs true).2 = 0 → n = .int .u64 ((mostS S' a k + 1 : Nat) : Int)) ∧ SlLeft DC w w' X a k D (saveS fp8 S' a k bs true).1 F) := Lib.hid fun W hW => by
    obtain ⟨⟨F', h1, h2⟩, h3⟩ := hW
    have hs2 : Salts W := ⟨Nat.lt_of_lt_of_le hs.1 h3.size, fun i hi => (h3.cell (p := ⟨0, i, none⟩) hs.1 fun e => by have := hF 0 e; omega).trans (hs.2 i hi)⟩
    refine (slSave_any h1 hs2 u bs (chg_rd0 h3 hr hu) (fun hp j hj e => ?_) hb hsa.1 (by omega) (by omega) true).mono ?_
    · rcases h2 j e with h4 | h4
      · exact hu hp j hj h4
      · have := rd_elder hr j hj hp
        omega
    rintro e w' ⟨n, rfl, hn, hl⟩
    exact ⟨n, rfl, hn, SlLeft.trans h3 h2 hl⟩
  obtain ⟨cd2, hcd2⟩ : ∃ cd2, cd2 = (saveS fp8 S' a k bs true).2 := ⟨_, rfl⟩
  obtain ⟨S2, hS2⟩ : ∃ S2, S2 = (saveS fp8 S' a k bs true).1 := ⟨_, rfl⟩
  obtain ⟨m, hmm⟩ : ∃ m, m = mostS S' a k + 1 := ⟨_, rfl⟩
  rw [← hcd2, ← hS2, ← hmm] at HC2 ⊢
  clear h hs hr hu hb hd hm ho hcd hS' hmm hsa hcd2 hS2 hroom he hF
  go_enter Tryd.func33, Tryd.ntmps33
  go_wp2_with (fail)
  refine HC.out.mono ?_
  rintro e w1 ⟨n, rfl, _, hl⟩
  have HL := Lib.hid hl
  clear hl
  go_wp2_with (fail)
  refine (HC2.out w1 HL.out).mono ?_
  rintro e w2 ⟨n2, rfl, hn, hl⟩
  have HN := Lib.hid hn
  have HL2 := Lib.hid hl
  clear hn hl
  go_wp2_with (fail)
  go_ret2
  exact ⟨n2, rfl, HN.out, HL2.out⟩
set_option maxRecDepth 100000 in
set_option maxHeartbeats 1000000 in
theorem slOpen_any (D : Nat) (a k : Nat) (w : World) (h1 : 1 ≤ k) (h2 : a + 2 * k ≤ 1024) :
    Calls Tryd.prog 18 #[.pointer (some ⟨D, 0, none⟩), .int .i64 (a : Int), .int .i64 (k : Int)] w fun e w' => e = .returned (.tuple #[.pointer (some ⟨w.heap.size, 0, none⟩), .int .i64 0]) ∧ Blk w' w.heap.size 72 (prV (.pointer (some ⟨D, 0, none⟩)) a k) ∧ Below w.heap.size w w' := by
  have g1 : ¬ (k : Int) < 1 := by omega
  have aI : (a : Int) ≤ 1024 := by omega
  have g3 : ¬ (1024 - (a : Int)) / 2 < (k : Int) := by omega
  go_enter Tryd.func18, Tryd.ntmps18
  go_wp2_with (fail)
  go_ret2
  exact ⟨rfl, Blk.made w 72 (prV (.pointer (some ⟨D, 0, none⟩)) a k), (Below.refl _ _).alloc (Nat.le_refl _) _⟩
set_option maxRecDepth 100000 in
set_option maxHeartbeats 1000000 in
theorem slOpen_bad (D : Nat) (a k : Int) (w : World) (ha : -9223372036854775808 ≤ a ∧ a ≤ 9223372036854775807) (h : ¬ (1 ≤ k ∧ 0 ≤ a ∧ a + 2 * k ≤ 1024)) :
    Calls Tryd.prog 18 #[.pointer (some ⟨D, 0, none⟩), .int .i64 a, .int .i64 k] w fun e w' => e = .returned (.tuple #[.pointer none, .int .i64 1]) ∧ w' = w := by
  by_cases h1 : k < 1
  · clear h ha
    go_enter Tryd.func18, Tryd.ntmps18
    go_wp2_with (fail)
    go_ret2
    exact ⟨rfl, rfl⟩
  · by_cases h2 : a < 0
    · clear h ha
      go_enter Tryd.func18, Tryd.ntmps18
      go_wp2_with (fail)
      go_ret2
      exact ⟨rfl, rfl⟩
    · obtain ⟨x, hx⟩ : ∃ x, x = 1024 - a := ⟨_, rfl⟩
      have e1 : IntKind.i64.wrap (1024 - a) = x := by rw [hx]; exact IntWalk.i64_in _ (by omega)
      obtain ⟨y, hy⟩ : ∃ y, x.tdiv 2 = y := ⟨_, rfl⟩
      have g4 : y < k ∧ -9223372036854775808 ≤ y ∧ y ≤ 9223372036854775807 := by
        rw [← hy]
        by_cases h0 : 0 ≤ x
        · rw [Int.tdiv_eq_ediv_of_nonneg h0]
          omega
        · have h4 := Int.neg_tdiv (a := -x) (b := 2)
          rw [Int.neg_neg] at h4
          rw [h4, Int.tdiv_eq_ediv_of_nonneg (by omega)]
          omega
      have g3 : y < k := g4.1
      have e2 : wrap64 y = y := by
        have h5 := g4.2
        unfold wrap64
        omega
      clear h hx ha g4
      go_enter Tryd.func18, Tryd.ntmps18
      go_wp2_with (fail)
      go_ret2
      exact ⟨rfl, rfl⟩
set_option maxRecDepth 100000 in
set_option maxHeartbeats 1000000 in
theorem slOpen_nil (a k : Int) (w : World) :
    Calls Tryd.prog 18 #[.pointer none, .int .i64 a, .int .i64 k] w fun e w' => e = .returned (.tuple #[.pointer none, .int .i64 1]) ∧ w' = w := by
  go_enter Tryd.func18, Tryd.ntmps18
  go_wp2_with (fail)
  go_ret2
  exact ⟨rfl, rfl⟩
set_option maxRecDepth 100000 in
set_option maxHeartbeats 1000000 in
theorem slLoad_nil (w : World) : Calls Tryd.prog 31 #[.pointer none] w fun e w' => e = .returned (.tuple #[.slice none 0 0, .int .u64 0, .int .i64 6]) ∧ w' = w := by
  go_enter Tryd.func31, Tryd.ntmps31
  go_wp2_with (fail)
  refine (slIsNone_nil w).mono ?_
  rintro e w1 ⟨rfl, rfl⟩
  go_wp2_with (fail)
  go_returns
  exact ⟨rfl, rfl⟩
set_option maxRecDepth 100000 in
set_option maxHeartbeats 1000000 in
theorem slSave0_nil (u : Value) (b : Bool) (w : World) : Calls Tryd.prog 36 #[.pointer none, u, .bool b] w fun e w' => e = .returned (.tuple #[.int .u64 0, .int .i64 10]) ∧ w' = w := by
  go_enter Tryd.func36, Tryd.ntmps36
  go_wp2_with (fail)
  refine (slIsNone_nil w).mono ?_
  rintro e w1 ⟨rfl, rfl⟩
  go_wp2_with (fail)
  go_ret2
  exact ⟨rfl, rfl⟩
set_option maxRecDepth 100000 in
set_option maxHeartbeats 1000000 in
theorem slSave_nil (u : Value) (w : World) : Calls Tryd.prog 21 #[.pointer none, u] w fun e w' => e = .returned (.tuple #[.int .u64 0, .int .i64 10]) ∧ w' = w := by
  go_enter Tryd.func21, Tryd.ntmps21
  go_wp2_with (fail)
  refine (slSave0_nil u false w).mono ?_
  rintro e w1 ⟨rfl, rfl⟩
  go_wp2_with (fail)
  go_ret2
  exact ⟨rfl, rfl⟩
set_option maxRecDepth 100000 in
set_option maxHeartbeats 1000000 in
theorem slWipe_nil (u : Value) (w : World) : Calls Tryd.prog 33 #[.pointer none, u] w fun e w' => e = .returned (.tuple #[.int .u64 0, .int .i64 10]) ∧ w' = w := by
  go_enter Tryd.func33, Tryd.ntmps33
  go_wp2_with (fail)
  refine (slSave0_nil u true w).mono ?_
  rintro e w1 ⟨rfl, rfl⟩
  go_wp2_with (fail)
  go_ret2
  exact ⟨rfl, rfl⟩
end Go.Proofs.YtbodiioemohenaaDoor
