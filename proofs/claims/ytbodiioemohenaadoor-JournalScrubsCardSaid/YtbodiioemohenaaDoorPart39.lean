/- Part 39 of the words that the laws share: SlLay, JrLay, JrLayM, JrWip, JrWipB. No condition of its own: each theorem says its own. -/
import Derived.Test.YtbodiioemohenaaDoorPart37
import Derived.Test.YtbodiioemohenaaDoorPart38
import Derived.Test.YtbodiioemohenaaDoorPart19
import Derived.Test.YtbodiioemohenaaDoorPart25
import Derived.Test.YtbodiioemohenaaDoorPart29
import Derived.Test.YtbodiioemohenaaDoorPart9
import Derived.Test.YtbodiioemohenaaDoorPart27

/- The developers' lay: its loop over the parts. Premise: the disk's contracts. -/
namespace Go.Proofs.YtbodiioemohenaaDoor
open Go.RowKit

theorem writesS_append : ∀ (xs ys : List (List UInt8)) (S : DS) (a : Nat), writesS S a (xs ++ ys) = if (writesS S a xs).2 = 0 then writesS (writesS S a xs).1 (a + xs.length) ys else writesS S a xs
  | [], ys, S, a => by
    show writesS S a ys = if (0 : Nat) = 0 then writesS S (a + 0) ys else (S, 0)
    rw [if_pos rfl, Nat.add_zero]
  | x :: xs, ys, S, a => by
    show (if (writeS S (a : Int) x).2 = 0 then writesS (writeS S (a : Int) x).1 (a + 1) (xs ++ ys) else writeS S (a : Int) x) = _
    by_cases h : (writeS S (a : Int) x).2 = 0
    · have e : writesS S a (x :: xs) = writesS (writeS S (a : Int) x).1 (a + 1) xs := by
        show (if (writeS S (a : Int) x).2 = 0 then _ else _) = _
        rw [if_pos h]
      rw [if_pos h, e, writesS_append xs ys, List.length_cons, show a + 1 + xs.length = a + (xs.length + 1) by omega]
    · have e : writesS S a (x :: xs) = writeS S (a : Int) x := by
        show (if (writeS S (a : Int) x).2 = 0 then _ else _) = _
        rw [if_neg h]
      rw [if_neg h, e, if_neg h]
theorem writesS_next {S : DS} {a i : Nat} {xs : List (List UInt8)} (hi : i < xs.length) (h : (writesS S a (xs.take i)).2 = 0) : writesS S a (xs.take (i + 1)) = writeS (writesS S a (xs.take i)).1 ((a + i : Nat) : Int) xs[i] := by
  rw [List.take_succ_eq_append_getElem hi, writesS_append, if_pos h, List.length_take, Nat.min_eq_left (by omega)]
  show (if (writeS _ _ _).2 = 0 then (_, 0) else _) = _
  by_cases h2 : (writeS (writesS S a (xs.take i)).1 ((a + i : Nat) : Int) xs[i]).2 = 0
  · rw [if_pos h2]
    exact Prod.ext rfl h2.symm
  · rw [if_neg h2]
theorem writesS_fail {S : DS} {a i : Nat} {xs : List (List UInt8)} (h : (writesS S a (xs.take i)).2 ≠ 0) : writesS S a xs = writesS S a (xs.take i) := by
  conv => lhs; rw [← List.take_append_drop i xs, writesS_append, if_neg h]
/-- What a call leaves of the pair's disk. -/
structure SlLeft (DC : DiskW) (w W : World) (X a k D : Nat) (S' : DS) (F : Nat → Prop) : Prop where
  at' : ∃ F', SlAt DC W X a k D S' F' ∧ ∀ j, F' j → F j ∨ w.heap.size ≤ j
  chg : Chg F w W
/-- What a call of the disk's leaves of a pair. -/
theorem SlAt.left {DC : DiskW} {w w' : World} {X a k D : Nat} {S S' : DS} {F : Nat → Prop} (h : SlAt DC w X a k D S F) (hl : DLeft DC.Is w w' (.pointer (some ⟨D, 0, none⟩)) S' F) : SlLeft DC w w' X a k D S' F := by
  obtain ⟨⟨F', h1, h2⟩, h3⟩ := hl
  refine ⟨⟨F', ⟨h3.blk h.pr fun e => h.ap X e rfl, h1, fun j hj e => ?_, h.k1, h.room⟩, h2⟩, h3⟩
  subst e
  rcases h2 j hj with h4 | h4
  · exact h.ap j h4 rfl
  · have := h.pr.lt
    omega
structure LayIs (DC : DiskW) (w0 : World) (X a k D : Nat) (S : DS) (F : Nat → Prop) (H q0 n : Nat) (bs : List UInt8) (i : Nat) (W : World) : Prop where
  ok : (writesS S q0 ((partsS fp8 bs n).take i)).2 = 0
  on : (writesS S q0 ((partsS fp8 bs n).take i)).1.dead = false
  ops : (writesS S q0 ((partsS fp8 bs n).take i)).1.ops = S.ops + i
  at' : ∃ F', SlAt DC W X a k D (writesS S q0 ((partsS fp8 bs n).take i)).1 F' ∧ ∀ j, F' j → F j ∨ w0.heap.size ≤ j
  told : ∃ p, Blk W H 98 (Hd.v ⟨n, p, cntS bs.length, bs.length, numB (fp8 bs)⟩)
  chg : Chg (fun j => F j ∨ j = H) w0 W
/-- When a write goes wrong. -/
structure LayBad (DC : DiskW) (w0 : World) (X a k D : Nat) (S : DS) (F : Nat → Prop) (H q0 n : Nat) (bs : List UInt8) (e : Value) (W : World) : Prop where
  bad : (writesS S q0 (partsS fp8 bs n)).2 ≠ 0
  ans : e = .int .i64 ((writesS S q0 (partsS fp8 bs n)).2 : Int)
  at' : ∃ F', SlAt DC W X a k D (writesS S q0 (partsS fp8 bs n)).1 F' ∧ ∀ j, F' j → F j ∨ w0.heap.size ≤ j
  chg : Chg (fun j => F j ∨ j = H) w0 W
def LayRel (DC : DiskW) (w0 : World) (X a k D : Nat) (S : DS) (F : Nat → Prop) (H q0 n : Nat) (bs : List UInt8) (x : Value) (W : World) : Prop := ∃ i : Nat, x = .int .i64 (i : Int) ∧ i ≤ cntS bs.length ∧ LayIs DC w0 X a k D S F H q0 n bs i W
noncomputable def body_lay : Code := (((Tryd.f50.body.map loopsOf).getD [])[0]?).getD .skip
set_option maxRecDepth 100000 in
set_option maxHeartbeats 4000000 in
theorem lay_loop {DC : DiskW} (c2 c4 c5 c6 c7 c8 c10 c11 c12 c13 c14 c15 c16 c17 c18 c19 c20 c21 c22 c23 c24 c27 c28 c29 c30 c31 c32 c33 c34 c35 c36 c37 c38 c39 c40 c41 c42 c43 c44 c45 c46 c47 c48 c49 c50 c51 c52 c53 c54 c55 c56 c57 : Value) {X a k D : Nat} {S : DS} {F : Nat → Prop} (H q0 n p0 sl : Nat) (bs : List UInt8) (Ab : Option Addr) (cb : Nat) (w w0 : World) (h0 : Hid (SlAt DC w X a k D S F)) (hw : Hid (Below w.heap.size w w0 ∧ w.heap.size ≤ H)) (hc : Hid (bs.length ≤ 104 * k ∧ sl ≤ 1 ∧ q0 = a + sl * k ∧ n < 256 ^ 8 ∧ S.dead = false ∧ S.ops < 900000))
    (hr : Hid (Rd w (.slice Ab bs.length cb) bs ∧ (0 < bs.length → ∀ j, (Value.slice Ab bs.length cb).ownBlock = some j → ¬ F j))) (hT : Hid (Blk w0 H 98 (Hd.v ⟨n, p0, cntS bs.length, bs.length, numB (fp8 bs)⟩))) {Q : Exit → Act → World → Prop}
    (HQ : Hid (∀ (u8 u10 u11 u12 u27 u28 u29 u30 u31 u32 u33 u34 u35 u36 u37 u38 u39 u40 u41 u42 u43 u44 u45 u46 u47 u48 u49 u50 u51 u52 u53 u54 u55 u56 u57 y : Value) (W : World), Hid (LayIs DC w0 X a k D S F H q0 n bs (cntS bs.length) W) → Q (.exit 0) ⟨List.toArray ((.pointer (some ⟨X, 0, none⟩)) :: (.int .i64 (sl : Int)) :: c2 :: (.slice Ab bs.length cb) :: c4 :: c5 :: c6 :: c7 :: u8 :: (.pointer (some ⟨H, 0, none⟩)) :: u10 :: u11 :: u12 :: c13 :: c14 :: c15 :: c16 :: c17 :: c18 :: c19 :: c20 :: c21 :: c22 :: c23 :: c24 :: (.int .i64 (cntS bs.length : Int)) :: y :: u27 :: u28 :: u29 :: u30 :: u31 :: u32 :: u33 :: u34 :: u35 :: u36 :: u37 :: u38 :: u39 :: u40 :: u41 :: u42 :: u43 :: u44 :: u45 :: u46 :: u47 :: u48 :: u49 :: u50 :: u51 :: u52 :: u53 :: u54 :: u55 :: u56 :: u57 :: []), []⟩ W))
    (HE : Hid (∀ (u10 u11 u12 u26 u27 u28 u29 u30 u31 u32 u33 u34 u35 u36 u37 u38 u39 u40 u41 u42 u43 u44 u45 u46 u47 u48 u49 u50 u51 u52 u53 u54 u55 u56 u57 v : Value) (W : World), Hid (LayBad DC w0 X a k D S F H q0 n bs v W) → Q .ret ⟨List.toArray ((.pointer (some ⟨X, 0, none⟩)) :: (.int .i64 (sl : Int)) :: c2 :: (.slice Ab bs.length cb) :: c4 :: c5 :: c6 :: c7 :: v :: (.pointer (some ⟨H, 0, none⟩)) :: u10 :: u11 :: u12 :: c13 :: c14 :: c15 :: c16 :: c17 :: c18 :: c19 :: c20 :: c21 :: c22 :: c23 :: c24 :: (.int .i64 (cntS bs.length : Int)) :: u26 :: u27 :: u28 :: u29 :: u30 :: u31 :: u32 :: u33 :: u34 :: u35 :: u36 :: u37 :: u38 :: u39 :: u40 :: u41 :: u42 :: u43 :: u44 :: u45 :: u46 :: u47 :: u48 :: u49 :: u50 :: u51 :: u52 :: u53 :: u54 :: u55 :: u56 :: u57 :: []), []⟩ W)) :
    (Code.loop body_lay).wp Tryd.prog Q ⟨List.toArray ((.pointer (some ⟨X, 0, none⟩)) :: (.int .i64 (sl : Int)) :: c2 :: (.slice Ab bs.length cb) :: c4 :: c5 :: c6 :: c7 :: c8 :: (.pointer (some ⟨H, 0, none⟩)) :: c10 :: c11 :: c12 :: c13 :: c14 :: c15 :: c16 :: c17 :: c18 :: c19 :: c20 :: c21 :: c22 :: c23 :: c24 :: (.int .i64 (cntS bs.length : Int)) :: (.int .i64 0) :: c27 :: c28 :: c29 :: c30 :: c31 :: c32 :: c33 :: c34 :: c35 :: c36 :: c37 :: c38 :: c39 :: c40 :: c41 :: c42 :: c43 :: c44 :: c45 :: c46 :: c47 :: c48 :: c49 :: c50 :: c51 :: c52 :: c53 :: c54 :: c55 :: c56 :: c57 :: []), []⟩ w0 := by
  unfold body_lay
  conv => arg 2; arg 1; whnf
  go_loopw [26] (fun x wx => LayRel DC w0 X a k D S F H q0 n bs x wx) (fun x _ => cntS bs.length - (intOf x).toNat)
  case atStart => exact ⟨0, rfl, Nat.zero_le _, rfl, hc.out.2.2.2.2.1, rfl, ⟨F, h0.out.on hw.out.1, fun j hj => .inl hj⟩, ⟨p0, hT.out⟩, Chg.refl _ _⟩
  case round =>
    obtain ⟨i, rfl, hi, hl⟩ := hrel
    have hroom := h0.out.room
    have hk1 := h0.out.k1
    have hc104 := hc.out.1
    obtain ⟨c, hcn⟩ : ∃ c, c = cntS bs.length := ⟨_, rfl⟩
    have hck : c ≤ k := by rw [hcn]; exact cntS_le hc104 hk1
    have HCN := Lib.hid hcn
    rw [← hcn] at hi ⊢
    have cI : (c : Int) ≤ 1024 := by omega
    have HL := Lib.hid hl
    by_cases hlt : i < c
    · have iI : (i : Int) < c := by omega
      have HLT := Lib.hid hlt
      obtain ⟨i0, hi0, hz0, hz1, hz2⟩ := info_parts info_u8
      obtain ⟨p, hp⟩ := hl.told
      rw [← hcn] at hp
      have TP := Lib.hid hp
      have c1 : wr.cell? ⟨H, 1, none⟩ = some (.int .i64 (p : Int)) := by rw [hp.cell]; rfl
      have f1 : wr.frozen? ⟨H, 1, none⟩ = false := hp.free 1
      obtain ⟨w6, hw6⟩ : ∃ W : World, W = wr.setCell ⟨H, 1, none⟩ (.int .i64 (i : Int)) := ⟨_, rfl⟩
      have T6 : Hid (Blk w6 H 98 (Hd.v ⟨n, i, c, bs.length, numB (fp8 bs)⟩)) := Lib.hid (by rw [hw6]; exact hp.set 1 (.int .i64 (i : Int)))
      have S6 : Hid (Sole wr w6 H) := Lib.hid (by rw [hw6]; exact Sole.setCell _ _ _ _)
      clear hp hl hi hlt hk1
      go_upto_region 6 with (fail)
      rw [← hw6]
      clear hw6 c1 f1
      obtain ⟨q, hq⟩ : ∃ q, q = i * 104 := ⟨_, rfl⟩
      obtain ⟨pe, hpe⟩ : ∃ pe, pe = min ((i + 1) * 104) bs.length := ⟨_, rfl⟩
      have hib : i * 104 ≤ bs.length ∧ i < c := by
        have h1 := HLT.out
        have h2 := HCN.out
        unfold cntS at h2
        split at h2 <;> omega
      have hF : ∀ j, F j → j < w.heap.size := DC.lt h0.out.dk
      have hr6 : Rd w6 (.slice Ab bs.length cb) bs := by
        have h1 := hr.out.1.below hw.out.1
        have h2 : Rd wr (.slice Ab bs.length cb) bs := chg_rd0 HL.out.chg h1 fun hp j hj e => by
          rcases e with e | e
          · exact hr.out.2 hp j hj e
          · have h3 := rd_elder hr.out.1 j hj hp
            have h4 := hw.out.2
            omega
        exact chg_rd0 (sole_only S6.out) h2 fun hp j hj e => by
          have h3 := rd_elder hr.out.1 j hj hp
          have h4 := hw.out.2
          have e1 : j = H := e
          omega
      obtain ⟨A6, k6, hs6, hm6⟩ := hr6.mid 23 5 i0 Tryd.underlying23 hi0 hz1 q pe (by omega) (by omega)
      have hqI : ((q : Nat) : Int) = (i : Int) * 104 := by omega
      rw [hqI] at hs6
      have HM6 := Lib.hid hm6
      have HPT : Hid (hdrS n i c bs.length (fp8 bs) ++ (bs.drop q).take (pe - q) = partS fp8 bs n i) := Lib.hid (by
        unfold partS
        rw [← HCN.out, hq, Nat.mul_comm i 104]
        congr 1
        by_cases h : bs.length ≤ (i + 1) * 104
        · rw [List.take_of_length_le (by rw [List.length_drop]; omega), List.take_of_length_le (by rw [List.length_drop]; omega)]
        · rw [show pe - 104 * i = 104 by omega])
      have HPL : Hid (((bs.drop q).take (pe - q)).length ≤ 104) := Lib.hid (by rw [List.length_take]; omega)
      obtain ⟨s, hsm⟩ : ∃ s, s = numB (fp8 bs) := ⟨_, rfl⟩
      rw [← hsm] at T6
      have T4e := Lib.hid hsm
      have hs8 : leB 8 s = fp8 bs := by rw [hsm]; exact leB_numB 8 _ (fp8_length bs)
      have hsl : s < 256 ^ 8 := by
        rw [hsm]
        have h1 := numB_lt (fp8 bs)
        rw [fp8_length] at h1
        exact h1
      obtain ⟨F', hA, hF'⟩ := HL.out.at'
      obtain ⟨Si, hSi⟩ : ∃ Si, Si = (writesS S q0 ((partsS fp8 bs n).take i)).1 := ⟨_, rfl⟩
      have hon := HL.out.on
      have hops := HL.out.ops
      rw [← hSi] at hA hon hops
      have hHF : ¬ F' H := fun e => by
        have h2 := hw.out.2
        have h3 := hT.out.lt
        rcases hF' H e with h1 | h1
        · have := hF H h1
          omega
        · omega
      have hXH : X ≠ H := by
        have h1 := h0.out.pr.lt
        have h2 := hw.out.2
        omega
      have hA6 : SlAt DC w6 X a k D Si F' := hA.chg (sole_only S6.out) hXH fun j hj e => by
        have e1 : j = H := e
        exact hHF (e1 ▸ hj)
      have AT := Lib.hid hA6
      have HFF : Hid ((∀ j, F' j → F j ∨ w0.heap.size ≤ j) ∧ ¬ F' H ∧ X ≠ H) := Lib.hid ⟨hF', hHF, hXH⟩
      obtain ⟨qq, hqq⟩ : ∃ qq, qq = q0 + i := ⟨_, rfl⟩
      have hslk : sl * k ≤ 1 * k := Nat.mul_le_mul hc.out.2.1 (Nat.le_refl k)
      have hq0 := hc.out.2.2.1
      have hqq2 : a + sl * k + i = qq := by rw [hqq, hq0]
      obtain ⟨part, hpart⟩ : ∃ part, part = partS fp8 bs n i := ⟨_, rfl⟩
      have hpl : part.length ≤ 128 := by rw [hpart]; exact partS_length fp8 fp8_length bs n i
      obtain ⟨S2, hS2⟩ : ∃ S2, S2 = (writeS Si (qq : Int) part).1 := ⟨_, rfl⟩
      obtain ⟨cd, hcd⟩ : ∃ cd, cd = (writeS Si (qq : Int) part).2 := ⟨_, rfl⟩
      have HNX : Hid (writesS S q0 ((partsS fp8 bs n).take (i + 1)) = (S2, cd)) := Lib.hid (by
        have h1 : i < (partsS fp8 bs n).length := by rw [partsS_length, ← HCN.out]; exact HLT.out
        rw [writesS_next h1 HL.out.ok, ← hSi, ← hqq, show (partsS fp8 bs n)[i] = part by rw [hpart]; simp [partsS], hS2, hcd])
      have HWS : Hid (S2.ops = Si.ops + 1 ∧ ((cd = 10 ∧ S2.dead = true) ∨ (cd = 0 ∧ S2.dead = false))) := Lib.hid (by
        obtain ⟨_, h2, h3⟩ := writeS_is hon (a := qq) (by omega) (x := part) hpl
        rw [hS2, hcd]
        exact ⟨h2, h3⟩)
      have HOP : Hid (Si.ops = S.ops + i) := Lib.hid hops
      rw [← hpart] at HPT
      have C1 : Hid (∀ V, Below w6.heap.size w6 V → Calls Tryd.prog 59 #[.pointer (some ⟨X, 0, none⟩), .int .i64 (sl : Int), .int .i64 (i : Int)] V fun e V' => e = .returned (.int .i64 (qq : Int)) ∧ Below w6.heap.size w6 V') := Lib.hid fun V hV => by
        refine (slSector_any (AT.out.on hV).pr sl i hc.out.2.1 (by omega) (by omega) (by omega)).mono ?_
        rintro e w' ⟨rfl, m, rfl⟩
        rw [hqq2]
        exact ⟨rfl, below_drewN hV m⟩
      have C2 : Hid (∀ V, Below w6.heap.size w6 V → Calls Tryd.prog 65 #[.agg #[.int .u64 (n : Int), .int .i64 (i : Int), .int .i64 (c : Int), .int .i64 (bs.length : Int), .int .u64 (s : Int)]] V fun e V' => ∃ v, e = .returned v ∧ V'.ownsRow w6.heap.size 5 1 v 24 ((hdrS n i c bs.length (fp8 bs)).map bv) ∧ Below w6.heap.size w6 V') := Lib.hid fun V hV => by
        refine (slForm_any ⟨n, i, c, bs.length, s⟩ hc.out.2.2.2.1 (show i < 65536 by omega) (show c < 65536 by omega) (show bs.length < 4294967296 by omega) hsl V).mono ?_
        rintro e V' ⟨v, rfl, ho, hb⟩
        have e1 : leB 8 n ++ leB 2 i ++ leB 2 c ++ leB 4 bs.length ++ leB 8 s = hdrS n i c bs.length (fp8 bs) := by
          unfold hdrS
          rw [hs8]
        have e2 : (leB 8 n ++ leB 2 i ++ leB 2 c ++ leB 4 bs.length ++ leB 8 s).length = 24 := by rw [e1]; exact hdrS_length _ _ _ _ (fp8_length bs)
        have ho : V'.ownsRow V.heap.size 5 1 v (leB 8 n ++ leB 2 i ++ leB 2 c ++ leB 4 bs.length ++ leB 8 s).length ((leB 8 n ++ leB 2 i ++ leB 2 c ++ leB 4 bs.length ++ leB 8 s).map bv) := ho
        rw [e2, e1] at ho
        exact ⟨v, rfl, own_mono ho hV.size, hV.trans (hb.mono hV.size)⟩
      have C3 : Hid (∀ V v m xs, Below w6.heap.size w6 V → V.ownsRow w6.heap.size 5 1 v m (xs.map bv) → xs = part → Calls Tryd.prog 37 #[.pointer (some ⟨D, 0, none⟩), .int .i64 (qq : Int), v] V fun e V' => e = .returned (.int .i64 (cd : Int)) ∧ SlLeft DC w6 V' X a k D S2 F') := Lib.hid fun V v m xs hV ho hx => by
        subst hx
        have h1 := AT.out.on hV
        refine (DC.write h1.dk (qq : Int) v xs (WalkArith.wf_i64 (by omega)) (Rd.of_own ho) (by omega) (by have := hc.out.2.2.2.2.2; omega) fun _ j hj e => ?_).mono ?_
        · have h2 := (ho.lt j hj).1
          have h3 := DC.lt AT.out.dk j e
          omega
        rintro e V' ⟨rfl, hl⟩
        rw [← hcd]
        refine ⟨rfl, ?_⟩
        obtain ⟨⟨F2, h4, h5⟩, h6⟩ := h1.left hl
        rw [hS2]
        exact ⟨⟨F2, h4, fun j hj => (h5 j hj).imp id fun h => Nat.le_trans hV.size h⟩, chg_join (chg_below hV) h6⟩
      have LIM : Hid (∀ V, Below w6.heap.size w6 V → V.cell? ⟨X, 0, none⟩ = some (.pointer (some ⟨D, 0, none⟩)) ∧ V.cell? ⟨H, 0, none⟩ = some (.int .u64 (n : Int)) ∧ V.cell? ⟨H, 1, none⟩ = some (.int .i64 (i : Int)) ∧ V.cell? ⟨H, 2, none⟩ = some (.int .i64 (c : Int)) ∧ V.cell? ⟨H, 3, none⟩ = some (.int .i64 (bs.length : Int)) ∧ V.cell? ⟨H, 4, none⟩ = some (.int .u64 (s : Int))) := Lib.hid fun V hV => by
        have h1 := T6.out.below hV T6.out.lt
        refine ⟨?_, ?_, ?_, ?_, ?_, ?_⟩
        · rw [(AT.out.on hV).pr.cell]; rfl
        all_goals rw [h1.cell]; rfl
      have LIW : Hid (∀ V, SlLeft DC w6 V X a k D S2 F' → V.cell? ⟨X, 0, none⟩ = some (.pointer (some ⟨D, 0, none⟩)) ∧ V.cell? ⟨H, 0, none⟩ = some (.int .u64 (n : Int)) ∧ V.cell? ⟨H, 1, none⟩ = some (.int .i64 (i : Int)) ∧ V.cell? ⟨H, 2, none⟩ = some (.int .i64 (c : Int)) ∧ V.cell? ⟨H, 3, none⟩ = some (.int .i64 (bs.length : Int)) ∧ V.cell? ⟨H, 4, none⟩ = some (.int .u64 (s : Int))) := Lib.hid fun V hV => by
        have h1 := hV.chg.blk T6.out HFF.out.2.1
        obtain ⟨F2, h2, _⟩ := hV.at'
        refine ⟨?_, ?_, ?_, ?_, ?_, ?_⟩
        · rw [h2.pr.cell]; rfl
        all_goals rw [h1.cell]; rfl
      have HPM : Hid (24 + ((bs.drop q).take (pe - q)).length ≤ 140737488355328) := Lib.hid (by have := HPL.out; omega)
      have hB6 : Below w6.heap.size w6 w6 := Below.refl _ _
      have HM6B : Hid (∀ V, Below w6.heap.size w6 V → Rd V (.slice A6 (pe - q) k6) ((bs.drop q).take (pe - q))) := Lib.hid fun V hV => HM6.out.below hV
      clear hr6 hm6 hF hs8 hsl hA hF' hSi hon hops hHF hXH hA6 hqq hslk hq0 hqq2 hpl hS2 hcd hsm hpart hcn hck hc104 hroom
      by_cases hle : (bs.length : Int) < ((i : Int) + 1) * 104
      case' pos =>
        have hpI : ((pe : Nat) : Int) = (bs.length : Int) := by omega
        rw [hpI] at hs6
        have HSL := Lib.hid hs6
        clear hs6 hpI hqI hq hpe hib
        go_upto_region 7 with (first
          | (with_reducible refine here_slice ?_
             refine wpList_slice_is rfl 23 _ Tryd.underlying23 _ _ _ rfl _ _ _ _ _ _ rfl rfl rfl HSL.out ?_))
      case' neg =>
        have hpI : ((pe : Nat) : Int) = ((i : Int) + 1) * 104 := by omega
        rw [hpI] at hs6
        have HSL := Lib.hid hs6
        clear hs6 hpI hqI hq hpe hib
        go_upto_region 7 with (first
          | (with_reducible refine here_slice ?_
             refine wpList_slice_is rfl 23 _ Tryd.underlying23 _ _ _ rfl _ _ _ _ _ _ rfl rfl rfl HSL.out ?_))
      all_goals
        go_region_held3 (fun V => V.cell? ⟨X, 0, none⟩ = some (.pointer (some ⟨D, 0, none⟩)) ∧ V.cell? ⟨H, 0, none⟩ = some (.int .u64 (n : Int)) ∧ V.cell? ⟨H, 1, none⟩ = some (.int .i64 (i : Int)) ∧ V.cell? ⟨H, 2, none⟩ = some (.int .i64 (c : Int)) ∧ V.cell? ⟨H, 3, none⟩ = some (.int .i64 (bs.length : Int)) ∧ V.cell? ⟨H, 4, none⟩ = some (.int .u64 (s : Int)))
          (first | assumption | exact LIM.out _ (by assumption) | exact LIM.out _ (Below.drew (by assumption)) | exact LIW.out _ (by assumption))
          (first
            | (go_at_call 59; refine (C1.out _ ?_).mono ?_; (first | assumption | exact Below.drew (by assumption)); rintro e v1 ⟨rfl, b1⟩)
            | (go_at_call 65; refine (C2.out _ ?_).mono ?_; (first | assumption | exact Below.drew (by assumption)); rintro e v2 ⟨v, rfl, o2, b2⟩)
            | (refine step_append_rd0 _ (by rfl) _ _ _ (by rfl) w6.heap.size 5 i0 _ Tryd.underlying23 hi0 hz0 hz1 hz2 rfl _ _ _ (by rfl) o2 _ ((bs.drop q).take (pe - q)) (by rfl) (HM6B.out _ b2) HPM.out b2.size ?_; intro u3 w3 o3 g3; have b3 := b2.grown g3 b2.size (own_ge o2))
            | (go_at_call 37; refine (C3.out _ _ (24 + ((bs.drop q).take (pe - q)).length) (hdrS n i c bs.length (fp8 bs) ++ (bs.drop q).take (pe - q)) b3 (by rw [List.map_append]; exact o3) HPT.out).mono ?_; rintro e v4 ⟨rfl, l4⟩))
        have CH : Hid (Chg (fun j => F j ∨ j = H) w0 v4) := Lib.hid (by
          have h1 : Chg (fun j => F j ∨ j = H) w0 w6 := chg_join HL.out.chg ((sole_only S6.out).mono fun j hj => .inr hj)
          exact h1.trans (l4.chg.mono fun j hj => (HFF.out.1 j hj).elim (fun h => .inl (.inl h)) .inr))
        have AT4 : Hid (∃ F2, SlAt DC v4 X a k D S2 F2 ∧ ∀ j, F2 j → F j ∨ w0.heap.size ≤ j) := Lib.hid (by
          obtain ⟨F2, h1, h2⟩ := l4.at'
          have h3 := HL.out.chg.size
          have h4 := S6.out.size
          exact ⟨F2, h1, fun j hj => (h2 j hj).elim (fun h => HFF.out.1 j h) fun h => .inr (by omega)⟩)
        have T4 : Hid (Blk v4 H 98 (Hd.v ⟨n, i, c, bs.length, s⟩)) := Lib.hid (l4.chg.blk T6.out HFF.out.2.1)
        clear l4 b1 b2 b3 o2 o3 g3 hB6
        obtain ⟨hso, hcs⟩ := HWS.out
        rcases hcs with ⟨rfl, hd⟩ | ⟨rfl, hd⟩
        · have HB : Hid (LayBad DC w0 X a k D S F H q0 n bs (.int .i64 10) v4) := Lib.hid (by
            have h1 : (writesS S q0 ((partsS fp8 bs n).take (i + 1))).2 ≠ 0 := by rw [HNX.out]; exact (show (10 : Nat) ≠ 0 by decide)
            have h2 := writesS_fail h1
            rw [HNX.out] at h2
            exact ⟨by rw [h2]; exact (show (10 : Nat) ≠ 0 by decide), by rw [h2]; rfl, by rw [h2]; exact AT4.out, CH.out⟩)
          clear hso hd
          have hev := HE.out
          rw [← HCN.out] at hev
          have HEV := Lib.hid hev
          clear hev
          go_wp2_with (fail)
          exact HEV.out _ _ _ _ _ _ _ _ _ _ _ _ _ _ _ _ _ _ _ _ _ _ _ _ _ _ _ _ _ _ _ _ _ _ _ _ _ HB
        · have HSO := Lib.hid hso
          have HD := Lib.hid hd
          clear hso hd
          go_wp2_with (fail)
          have hl := HLT.out
          refine ⟨⟨i + 1, by go_num, by rw [← HCN.out]; omega, ?_, ?_, ?_, ?_, ⟨i, ?_⟩, CH.out⟩, by simp [intOf]; omega⟩
          · rw [HNX.out]
          · rw [HNX.out]
            exact HD.out
          · rw [HNX.out]
            show S2.ops = _
            rw [HSO.out, HOP.out]
            omega
          · rw [HNX.out]
            exact AT4.out
          · have h4 := T4.out
            rw [T4e.out, HCN.out] at h4
            exact h4
    · obtain rfl : i = c := by omega
      have hqv := HQ.out
      rw [← HCN.out] at hqv
      have HL2 := Lib.hid hl
      have HQV := Lib.hid hqv
      clear hl hi hlt hqv
      go_wp2_with (fail)
      exact HQV.out _ _ _ _ _ _ _ _ _ _ _ _ _ _ _ _ _ _ _ _ _ _ _ _ _ _ _ _ _ _ _ _ _ _ _ _ _ HL2
end Go.Proofs.YtbodiioemohenaaDoor

/- The developers' lay, its loop: a record's parts, one behind the other. Premise: the disk's contracts. -/
namespace Go.Proofs.YtbodiioemohenaaDoor
open Go.RowKit

/-- What a call leaves of the store's disk. -/
structure JrLeft (DC : DiskW) (w W : World) (X D : Nat) (pp : Value) (st : JS) (S' : DS) (F : Nat → Prop) : Prop where
  at' : ∃ F', JrAt DC W X D pp st S' F' ∧ ∀ j, F' j → F j ∨ w.heap.size ≤ j
  chg : Chg F w W
theorem JrAt.left {DC : DiskW} {w w' : World} {X D : Nat} {pp : Value} {st : JS} {S S' : DS} {F : Nat → Prop} (h : JrAt DC w X D pp st S F) (hl : DLeft DC.Is w w' (.pointer (some ⟨D, 0, none⟩)) S' F) : JrLeft DC w w' X D pp st S' F := by
  obtain ⟨⟨F', h1, h2⟩, h3⟩ := hl
  refine ⟨⟨F', ⟨h3.blk h.pr fun e => h.ap X e rfl, h1, fun j hj e => ?_⟩, h2⟩, h3⟩
  subst e
  rcases h2 j hj with h4 | h4
  · exact h.ap j h4 rfl
  · have := h.pr.lt
    omega
theorem JrLeft.trans {DC : DiskW} {w w1 w2 : World} {X D : Nat} {pp : Value} {st : JS} {S2 : DS} {F F1 : Nat → Prop} (hc : Chg F w w1) (hF : ∀ j, F1 j → F j ∨ w.heap.size ≤ j) (h2 : JrLeft DC w1 w2 X D pp st S2 F1) : JrLeft DC w w2 X D pp st S2 F := by
  obtain ⟨⟨F2, h3, h4⟩, h5⟩ := h2
  exact ⟨⟨F2, h3, fun j hj => (h4 j hj).elim (fun h => hF j h) fun h => .inr (Nat.le_trans hc.size h)⟩, hc.trans (h5.mono fun j hj => hF j hj)⟩
theorem JrLeft.below {DC : DiskW} {w w1 w2 : World} {X D : Nat} {pp : Value} {st : JS} {S2 : DS} {F : Nat → Prop} (hb : Below w.heap.size w w1) (h2 : JrLeft DC w1 w2 X D pp st S2 F) : JrLeft DC w w2 X D pp st S2 F := JrLeft.trans (chg_below hb) (fun _ h => .inl h) h2
theorem JrLeft.refl {DC : DiskW} {w : World} {X D : Nat} {pp : Value} {st : JS} {S : DS} {F : Nat → Prop} (h : JrAt DC w X D pp st S F) : JrLeft DC w w X D pp st S F := ⟨⟨F, h, fun _ hj => .inl hj⟩, Chg.refl _ _⟩
structure JlyIs (DC : DiskW) (w0 : World) (X D : Nat) (pp : Value) (st : JS) (S : DS) (F : Nat → Prop) (H q0 n nu : Nat) (bs : List UInt8) (i : Nat) (W : World) : Prop where
  ok : (writesS S q0 ((partsR bs n nu).take i)).2 = 0
  on : (writesS S q0 ((partsR bs n nu).take i)).1.dead = false
  ops : (writesS S q0 ((partsR bs n nu).take i)).1.ops = S.ops + i
  at' : ∃ F', JrAt DC W X D pp st (writesS S q0 ((partsR bs n nu).take i)).1 F' ∧ ∀ j, F' j → F j ∨ w0.heap.size ≤ j
  told : ∃ p, Blk W H 75 (Hj.v ⟨n, nu, p, cntR bs.length, bs.length⟩)
  chg : Chg (fun j => F j ∨ j = H) w0 W
/-- When a write goes wrong. -/
structure JlyBad (DC : DiskW) (w0 : World) (X D : Nat) (pp : Value) (st : JS) (S : DS) (F : Nat → Prop) (H q0 n nu : Nat) (bs : List UInt8) (e : Value) (W : World) : Prop where
  bad : (writesS S q0 (partsR bs n nu)).2 ≠ 0
  ans : e = .int .i64 ((writesS S q0 (partsR bs n nu)).2 : Int)
  at' : ∃ F', JrAt DC W X D pp st (writesS S q0 (partsR bs n nu)).1 F' ∧ ∀ j, F' j → F j ∨ w0.heap.size ≤ j
  chg : Chg (fun j => F j ∨ j = H) w0 W
def JlyRel (DC : DiskW) (w0 : World) (X D : Nat) (pp : Value) (st : JS) (S : DS) (F : Nat → Prop) (H q0 n nu : Nat) (bs : List UInt8) (x : Value) (W : World) : Prop := ∃ i : Nat, x = .int .i64 (i : Int) ∧ i ≤ cntR bs.length ∧ JlyIs DC w0 X D pp st S F H q0 n nu bs i W
noncomputable def body_jly : Code := (((Tryd.f25.body.map loopsOf).getD [])[0]?).getD .skip
set_option maxRecDepth 100000 in
set_option maxHeartbeats 4000000 in
theorem jly_loop {DC : DiskW} (c2 c3 c4 c6 c7 c8 c9 c10 c11 c12 c13 c14 c15 c16 c17 c18 c19 c20 c21 c22 c23 c26 c27 c28 c29 c30 c31 c32 c33 c34 c35 c36 c37 c38 c39 c40 c41 c42 c43 c44 c45 c46 c47 c48 c49 c50 c51 c52 c53 c54 c55 c56 c57 c58 : Value) {X D : Nat} {pp : Value} {st : JS} {S : DS} {F : Nat → Prop} (H q0 n nu p0 : Nat) (bs : List UInt8) (Ab : Option Addr) (cb : Nat) (w w0 : World) (h0 : Hid (JrAt DC w X D pp st S F)) (hw : Hid (Below w.heap.size w w0 ∧ w.heap.size ≤ H)) (hc : Hid (bs.length ≤ 4096 ∧ q0 = st.p ∧ q0 + cntR bs.length ≤ 1024 ∧ n < 256 ^ 8 ∧ S.dead = false ∧ S.ops < 900000 ∧ nu < 1000000))
    (hr : Hid (Rd w (.slice Ab bs.length cb) bs ∧ (0 < bs.length → ∀ j, (Value.slice Ab bs.length cb).ownBlock = some j → ¬ F j))) (hT : Hid (Blk w0 H 75 (Hj.v ⟨n, nu, p0, cntR bs.length, bs.length⟩))) {Q : Exit → Act → World → Prop}
    (HQ : Hid (∀ (u4 u6 u7 u8 u26 u27 u28 u29 u30 u31 u32 u33 u34 u35 u36 u37 u38 u39 u40 u41 u42 u43 u44 u45 u46 u47 u48 u49 u50 u51 u52 u53 u54 u55 u56 u57 u58 y : Value) (W : World), Hid (JlyIs DC w0 X D pp st S F H q0 n nu bs (cntR bs.length) W) → Q (.exit 0) ⟨List.toArray ((.pointer (some ⟨X, 0, none⟩)) :: (.slice Ab bs.length cb) :: c2 :: c3 :: u4 :: (.pointer (some ⟨H, 0, none⟩)) :: u6 :: u7 :: u8 :: c9 :: c10 :: c11 :: c12 :: c13 :: c14 :: c15 :: c16 :: c17 :: c18 :: c19 :: c20 :: c21 :: c22 :: c23 :: (.int .i64 (cntR bs.length : Int)) :: y :: u26 :: u27 :: u28 :: u29 :: u30 :: u31 :: u32 :: u33 :: u34 :: u35 :: u36 :: u37 :: u38 :: u39 :: u40 :: u41 :: u42 :: u43 :: u44 :: u45 :: u46 :: u47 :: u48 :: u49 :: u50 :: u51 :: u52 :: u53 :: u54 :: u55 :: u56 :: u57 :: u58 :: []), []⟩ W))
    (HE : Hid (∀ (u6 u7 u8 u25 u26 u27 u28 u29 u30 u31 u32 u33 u34 u35 u36 u37 u38 u39 u40 u41 u42 u43 u44 u45 u46 u47 u48 u49 u50 u51 u52 u53 u54 u55 u56 u57 u58 v : Value) (W : World), Hid (JlyBad DC w0 X D pp st S F H q0 n nu bs v W) → Q .ret ⟨List.toArray ((.pointer (some ⟨X, 0, none⟩)) :: (.slice Ab bs.length cb) :: c2 :: c3 :: v :: (.pointer (some ⟨H, 0, none⟩)) :: u6 :: u7 :: u8 :: c9 :: c10 :: c11 :: c12 :: c13 :: c14 :: c15 :: c16 :: c17 :: c18 :: c19 :: c20 :: c21 :: c22 :: c23 :: (.int .i64 (cntR bs.length : Int)) :: u25 :: u26 :: u27 :: u28 :: u29 :: u30 :: u31 :: u32 :: u33 :: u34 :: u35 :: u36 :: u37 :: u38 :: u39 :: u40 :: u41 :: u42 :: u43 :: u44 :: u45 :: u46 :: u47 :: u48 :: u49 :: u50 :: u51 :: u52 :: u53 :: u54 :: u55 :: u56 :: u57 :: u58 :: []), []⟩ W)) :
    (Code.loop body_jly).wp Tryd.prog Q ⟨List.toArray ((.pointer (some ⟨X, 0, none⟩)) :: (.slice Ab bs.length cb) :: c2 :: c3 :: c4 :: (.pointer (some ⟨H, 0, none⟩)) :: c6 :: c7 :: c8 :: c9 :: c10 :: c11 :: c12 :: c13 :: c14 :: c15 :: c16 :: c17 :: c18 :: c19 :: c20 :: c21 :: c22 :: c23 :: (.int .i64 (cntR bs.length : Int)) :: (.int .i64 0) :: c26 :: c27 :: c28 :: c29 :: c30 :: c31 :: c32 :: c33 :: c34 :: c35 :: c36 :: c37 :: c38 :: c39 :: c40 :: c41 :: c42 :: c43 :: c44 :: c45 :: c46 :: c47 :: c48 :: c49 :: c50 :: c51 :: c52 :: c53 :: c54 :: c55 :: c56 :: c57 :: c58 :: []), []⟩ w0 := by
  unfold body_jly
  conv => arg 2; arg 1; whnf
  go_loopw [25] (fun x wx => JlyRel DC w0 X D pp st S F H q0 n nu bs x wx) (fun x _ => cntR bs.length - (intOf x).toNat)
  case atStart => exact ⟨0, rfl, Nat.zero_le _, rfl, hc.out.2.2.2.2.1, rfl, ⟨F, h0.out.on hw.out.1, fun j hj => .inl hj⟩, ⟨p0, hT.out⟩, Chg.refl _ _⟩
  case round =>
    obtain ⟨i, rfl, hi, hl⟩ := hrel
    have hroom := hc.out.2.2.1
    have hc108 := hc.out.1
    obtain ⟨c, hcn⟩ : ∃ c, c = cntR bs.length := ⟨_, rfl⟩
    have hck : q0 + c ≤ 1024 := by rw [hcn]; exact hroom
    have HCN := Lib.hid hcn
    rw [← hcn] at hi ⊢
    have cI : (c : Int) ≤ 1024 := by omega
    have HL := Lib.hid hl
    by_cases hlt : i < c
    · have iI : (i : Int) < c := by omega
      have HLT := Lib.hid hlt
      obtain ⟨i0, hi0, hz0, hz1, hz2⟩ := info_parts info_u8
      obtain ⟨p, hp⟩ := hl.told
      rw [← hcn] at hp
      have TP := Lib.hid hp
      have c1 : wr.cell? ⟨H, 2, none⟩ = some (.int .i64 (p : Int)) := by rw [hp.cell]; rfl
      have f1 : wr.frozen? ⟨H, 2, none⟩ = false := hp.free 2
      obtain ⟨w6, hw6⟩ : ∃ W : World, W = wr.setCell ⟨H, 2, none⟩ (.int .i64 (i : Int)) := ⟨_, rfl⟩
      have T6 : Hid (Blk w6 H 75 (Hj.v ⟨n, nu, i, c, bs.length⟩)) := Lib.hid (by rw [hw6]; exact hp.set 2 (.int .i64 (i : Int)))
      have S6 : Hid (Sole wr w6 H) := Lib.hid (by rw [hw6]; exact Sole.setCell _ _ _ _)
      clear hp hl hi hlt
      go_upto_region 6 with (fail)
      rw [← hw6]
      clear hw6 c1 f1
      obtain ⟨q, hq⟩ : ∃ q, q = i * 108 := ⟨_, rfl⟩
      obtain ⟨pe, hpe⟩ : ∃ pe, pe = min ((i + 1) * 108) bs.length := ⟨_, rfl⟩
      have hib : i * 108 ≤ bs.length ∧ i < c := by
        have h1 := HLT.out
        have h2 := HCN.out
        unfold cntR at h2
        split at h2 <;> omega
      have hF : ∀ j, F j → j < w.heap.size := DC.lt h0.out.dk
      have hr6 : Rd w6 (.slice Ab bs.length cb) bs := by
        have h1 := hr.out.1.below hw.out.1
        have h2 : Rd wr (.slice Ab bs.length cb) bs := chg_rd0 HL.out.chg h1 fun hp j hj e => by
          rcases e with e | e
          · exact hr.out.2 hp j hj e
          · have h3 := rd_elder hr.out.1 j hj hp
            have h4 := hw.out.2
            omega
        exact chg_rd0 (sole_only S6.out) h2 fun hp j hj e => by
          have h3 := rd_elder hr.out.1 j hj hp
          have h4 := hw.out.2
          have e1 : j = H := e
          omega
      obtain ⟨A6, k6, hs6, hm6⟩ := hr6.mid 23 5 i0 Tryd.underlying23 hi0 hz1 q pe (by omega) (by omega)
      have hqI : ((q : Nat) : Int) = (i : Int) * 108 := by omega
      rw [hqI] at hs6
      have HM6 := Lib.hid hm6
      have HPT : Hid (hdrR n nu i c bs.length ++ (bs.drop q).take (pe - q) = partR bs n nu i) := Lib.hid (by
        unfold partR
        rw [← HCN.out, hq, Nat.mul_comm i 108]
        congr 1
        by_cases h : bs.length ≤ (i + 1) * 108
        · rw [List.take_of_length_le (by rw [List.length_drop]; omega), List.take_of_length_le (by rw [List.length_drop]; omega)]
        · rw [show pe - 108 * i = 108 by omega])
      have HPL : Hid (((bs.drop q).take (pe - q)).length ≤ 108) := Lib.hid (by rw [List.length_take]; omega)
      obtain ⟨F', hA, hF'⟩ := HL.out.at'
      obtain ⟨Si, hSi⟩ : ∃ Si, Si = (writesS S q0 ((partsR bs n nu).take i)).1 := ⟨_, rfl⟩
      have hon := HL.out.on
      have hops := HL.out.ops
      rw [← hSi] at hA hon hops
      have hHF : ¬ F' H := fun e => by
        have h2 := hw.out.2
        have h3 := hT.out.lt
        rcases hF' H e with h1 | h1
        · have := hF H h1
          omega
        · omega
      have hXH : X ≠ H := by
        have h1 := h0.out.pr.lt
        have h2 := hw.out.2
        omega
      have hA6 : JrAt DC w6 X D pp st Si F' := hA.chg (sole_only S6.out) hXH fun j hj e => by
        have e1 : j = H := e
        exact hHF (e1 ▸ hj)
      have AT := Lib.hid hA6
      have HFF : Hid ((∀ j, F' j → F j ∨ w0.heap.size ≤ j) ∧ ¬ F' H ∧ X ≠ H) := Lib.hid ⟨hF', hHF, hXH⟩
      obtain ⟨qq, hqq⟩ : ∃ qq, qq = q0 + i := ⟨_, rfl⟩
      have eqq : IntKind.i64.wrap ((q0 : Int) + (i : Int)) = (qq : Int) := by
        have h1 := HLT.out
        rw [IntWalk.i64_in _ (by omega), hqq]
        omega
      have hstp := hc.out.2.1
      obtain ⟨part, hpart⟩ : ∃ part, part = partR bs n nu i := ⟨_, rfl⟩
      have hpl : part.length ≤ 128 := by rw [hpart]; exact partR_length bs n nu i
      obtain ⟨S2, hS2⟩ : ∃ S2, S2 = (writeS Si (qq : Int) part).1 := ⟨_, rfl⟩
      obtain ⟨cd, hcd⟩ : ∃ cd, cd = (writeS Si (qq : Int) part).2 := ⟨_, rfl⟩
      have HNX : Hid (writesS S q0 ((partsR bs n nu).take (i + 1)) = (S2, cd)) := Lib.hid (by
        have h1 : i < (partsR bs n nu).length := by rw [partsR_length, ← HCN.out]; exact HLT.out
        rw [writesS_next h1 HL.out.ok, ← hSi, ← hqq, show (partsR bs n nu)[i] = part by rw [hpart]; simp [partsR], hS2, hcd])
      have HWS : Hid (S2.ops = Si.ops + 1 ∧ ((cd = 10 ∧ S2.dead = true) ∨ (cd = 0 ∧ S2.dead = false))) := Lib.hid (by
        obtain ⟨_, h2, h3⟩ := writeS_is hon (a := qq) (by omega) (x := part) hpl
        rw [hS2, hcd]
        exact ⟨h2, h3⟩)
      have HOP : Hid (Si.ops = S.ops + i) := Lib.hid hops
      rw [← hpart] at HPT
      have C2 : Hid (∀ V, Below w6.heap.size w6 V → Calls Tryd.prog 38 #[.agg #[.int .u64 (n : Int), .int .i64 (nu : Int), .int .i64 (i : Int), .int .i64 (c : Int), .int .i64 (bs.length : Int)]] V fun e V' => ∃ v, e = .returned v ∧ V'.ownsRow w6.heap.size 5 1 v 20 ((hdrR n nu i c bs.length).map bv) ∧ Below w6.heap.size w6 V') := Lib.hid fun V hV => by
        have hco := hc.out
        refine (jForm_any ⟨n, nu, i, c, bs.length⟩ hco.2.2.2.1 (show nu < 4294967296 by omega) (show i < 65536 by omega) (show c < 65536 by omega) (show bs.length < 4294967296 by omega) V).mono ?_
        rintro e V' ⟨v, rfl, ho, hb⟩
        have ho : V'.ownsRow V.heap.size 5 1 v (hdrR n nu i c bs.length).length ((hdrR n nu i c bs.length).map bv) := ho
        rw [hdrR_length] at ho
        exact ⟨v, rfl, own_mono ho hV.size, hV.trans (hb.mono hV.size)⟩
      have C3 : Hid (∀ V v m xs, Below w6.heap.size w6 V → V.ownsRow w6.heap.size 5 1 v m (xs.map bv) → xs = part → Calls Tryd.prog 37 #[.pointer (some ⟨D, 0, none⟩), .int .i64 (qq : Int), v] V fun e V' => e = .returned (.int .i64 (cd : Int)) ∧ JrLeft DC w6 V' X D pp st S2 F') := Lib.hid fun V v m xs hV ho hx => by
        subst hx
        have h1 := AT.out.on hV
        refine (DC.write h1.dk (qq : Int) v xs (WalkArith.wf_i64 (by omega)) (Rd.of_own ho) (by omega) (by have := hc.out.2.2.2.2.2.1; omega) fun _ j hj e => ?_).mono ?_
        · have h2 := (ho.lt j hj).1
          have h3 := DC.lt AT.out.dk j e
          omega
        rintro e V' ⟨rfl, hl⟩
        rw [← hcd]
        refine ⟨rfl, ?_⟩
        obtain ⟨⟨F2, h4, h5⟩, h6⟩ := h1.left hl
        rw [hS2]
        exact ⟨⟨F2, h4, fun j hj => (h5 j hj).imp id fun h => Nat.le_trans hV.size h⟩, chg_join (chg_below hV) h6⟩
      have LIM : Hid (∀ V, Below w6.heap.size w6 V → V.cell? ⟨X, 0, none⟩ = some (.pointer (some ⟨D, 0, none⟩)) ∧ V.cell? ⟨X, 5, none⟩ = some (.int .i64 (q0 : Int)) ∧ V.cell? ⟨H, 0, none⟩ = some (.int .u64 (n : Int)) ∧ V.cell? ⟨H, 1, none⟩ = some (.int .i64 (nu : Int)) ∧ V.cell? ⟨H, 2, none⟩ = some (.int .i64 (i : Int)) ∧ V.cell? ⟨H, 3, none⟩ = some (.int .i64 (c : Int)) ∧ V.cell? ⟨H, 4, none⟩ = some (.int .i64 (bs.length : Int))) := Lib.hid fun V hV => by
        have h1 := T6.out.below hV T6.out.lt
        refine ⟨?_, ?_, ?_, ?_, ?_, ?_, ?_⟩
        · rw [(AT.out.on hV).pr.cell]; rfl
        · rw [(AT.out.on hV).pr.cell, hstp]; rfl
        all_goals rw [h1.cell]; rfl
      have LIW : Hid (∀ V, JrLeft DC w6 V X D pp st S2 F' → V.cell? ⟨X, 0, none⟩ = some (.pointer (some ⟨D, 0, none⟩)) ∧ V.cell? ⟨X, 5, none⟩ = some (.int .i64 (q0 : Int)) ∧ V.cell? ⟨H, 0, none⟩ = some (.int .u64 (n : Int)) ∧ V.cell? ⟨H, 1, none⟩ = some (.int .i64 (nu : Int)) ∧ V.cell? ⟨H, 2, none⟩ = some (.int .i64 (i : Int)) ∧ V.cell? ⟨H, 3, none⟩ = some (.int .i64 (c : Int)) ∧ V.cell? ⟨H, 4, none⟩ = some (.int .i64 (bs.length : Int))) := Lib.hid fun V hV => by
        have h1 := hV.chg.blk T6.out HFF.out.2.1
        obtain ⟨F2, h2, _⟩ := hV.at'
        refine ⟨?_, ?_, ?_, ?_, ?_, ?_, ?_⟩
        · rw [h2.pr.cell]; rfl
        · rw [h2.pr.cell, hstp]; rfl
        all_goals rw [h1.cell]; rfl
      have HPM : Hid (20 + ((bs.drop q).take (pe - q)).length ≤ 140737488355328) := Lib.hid (by have := HPL.out; omega)
      have hB6 : Below w6.heap.size w6 w6 := Below.refl _ _
      have HM6B : Hid (∀ V, Below w6.heap.size w6 V → Rd V (.slice A6 (pe - q) k6) ((bs.drop q).take (pe - q))) := Lib.hid fun V hV => HM6.out.below hV
      clear hr6 hm6 hF hA hF' hSi hon hops hHF hXH hA6 hqq hpl hS2 hcd hpart hcn hck hc108 hroom hstp
      by_cases hle : (bs.length : Int) < ((i : Int) + 1) * 108
      case' pos =>
        have hpI : ((pe : Nat) : Int) = (bs.length : Int) := by omega
        rw [hpI] at hs6
        have HSL := Lib.hid hs6
        clear hs6 hpI hqI hq hpe hib
        go_upto_region 7 with (first
          | (with_reducible refine here_slice ?_
             refine wpList_slice_is rfl 23 _ Tryd.underlying23 _ _ _ rfl _ _ _ _ _ _ rfl rfl rfl HSL.out ?_))
      case' neg =>
        have hpI : ((pe : Nat) : Int) = ((i : Int) + 1) * 108 := by omega
        rw [hpI] at hs6
        have HSL := Lib.hid hs6
        clear hs6 hpI hqI hq hpe hib
        go_upto_region 7 with (first
          | (with_reducible refine here_slice ?_
             refine wpList_slice_is rfl 23 _ Tryd.underlying23 _ _ _ rfl _ _ _ _ _ _ rfl rfl rfl HSL.out ?_))
      all_goals
        go_region_held3 (fun V => V.cell? ⟨X, 0, none⟩ = some (.pointer (some ⟨D, 0, none⟩)) ∧ V.cell? ⟨X, 5, none⟩ = some (.int .i64 (q0 : Int)) ∧ V.cell? ⟨H, 0, none⟩ = some (.int .u64 (n : Int)) ∧ V.cell? ⟨H, 1, none⟩ = some (.int .i64 (nu : Int)) ∧ V.cell? ⟨H, 2, none⟩ = some (.int .i64 (i : Int)) ∧ V.cell? ⟨H, 3, none⟩ = some (.int .i64 (c : Int)) ∧ V.cell? ⟨H, 4, none⟩ = some (.int .i64 (bs.length : Int)))
          (first | assumption | exact LIM.out _ (by assumption) | exact LIM.out _ (Below.drew (by assumption)) | exact LIW.out _ (by assumption))
          (first
            | (go_at_call 38; refine (C2.out _ ?_).mono ?_; (first | assumption | exact Below.drew (by assumption)); rintro e v2 ⟨v, rfl, o2, b2⟩)
            | (refine step_append_rd0 _ (by rfl) _ _ _ (by rfl) w6.heap.size 5 i0 _ Tryd.underlying23 hi0 hz0 hz1 hz2 rfl _ _ _ (by rfl) o2 _ ((bs.drop q).take (pe - q)) (by rfl) (HM6B.out _ b2) HPM.out b2.size ?_; intro u3 w3 o3 g3; have b3 := b2.grown g3 b2.size (own_ge o2))
            | (go_at_call 37; refine (C3.out _ _ (20 + ((bs.drop q).take (pe - q)).length) (hdrR n nu i c bs.length ++ (bs.drop q).take (pe - q)) b3 (by rw [List.map_append]; exact o3) HPT.out).mono ?_; rintro e v4 ⟨rfl, l4⟩))
        have CH : Hid (Chg (fun j => F j ∨ j = H) w0 v4) := Lib.hid (by
          have h1 : Chg (fun j => F j ∨ j = H) w0 w6 := chg_join HL.out.chg ((sole_only S6.out).mono fun j hj => .inr hj)
          exact h1.trans (l4.chg.mono fun j hj => (HFF.out.1 j hj).elim (fun h => .inl (.inl h)) .inr))
        have AT4 : Hid (∃ F2, JrAt DC v4 X D pp st S2 F2 ∧ ∀ j, F2 j → F j ∨ w0.heap.size ≤ j) := Lib.hid (by
          obtain ⟨F2, h1, h2⟩ := l4.at'
          have h3 := HL.out.chg.size
          have h4 := S6.out.size
          exact ⟨F2, h1, fun j hj => (h2 j hj).elim (fun h => HFF.out.1 j h) fun h => .inr (by omega)⟩)
        have T4 : Hid (Blk v4 H 75 (Hj.v ⟨n, nu, i, c, bs.length⟩)) := Lib.hid (l4.chg.blk T6.out HFF.out.2.1)
        clear l4 b2 b3 o2 o3 g3 hB6
        obtain ⟨hso, hcs⟩ := HWS.out
        rcases hcs with ⟨rfl, hd⟩ | ⟨rfl, hd⟩
        · have HB : Hid (JlyBad DC w0 X D pp st S F H q0 n nu bs (.int .i64 10) v4) := Lib.hid (by
            have h1 : (writesS S q0 ((partsR bs n nu).take (i + 1))).2 ≠ 0 := by rw [HNX.out]; exact (show (10 : Nat) ≠ 0 by decide)
            have h2 := writesS_fail h1
            rw [HNX.out] at h2
            exact ⟨by rw [h2]; exact (show (10 : Nat) ≠ 0 by decide), by rw [h2]; rfl, by rw [h2]; exact AT4.out, CH.out⟩)
          clear hso hd
          have hev := HE.out
          rw [← HCN.out] at hev
          have HEV := Lib.hid hev
          clear hev
          go_wp2_with (fail)
          exact HEV.out _ _ _ _ _ _ _ _ _ _ _ _ _ _ _ _ _ _ _ _ _ _ _ _ _ _ _ _ _ _ _ _ _ _ _ _ _ _ _ HB
        · have HSO := Lib.hid hso
          have HD := Lib.hid hd
          clear hso hd
          go_wp2_with (fail)
          have hl := HLT.out
          refine ⟨⟨i + 1, by go_num, by rw [← HCN.out]; omega, ?_, ?_, ?_, ?_, ⟨i, ?_⟩, CH.out⟩, by simp [intOf]; omega⟩
          · rw [HNX.out]
          · rw [HNX.out]
            exact HD.out
          · rw [HNX.out]
            show S2.ops = _
            rw [HSO.out, HOP.out]
            omega
          · rw [HNX.out]
            exact AT4.out
          · have h4 := T4.out
            rw [HCN.out] at h4
            exact h4
    · obtain rfl : i = c := by omega
      have hqv := HQ.out
      rw [← HCN.out] at hqv
      have HL2 := Lib.hid hl
      have HQV := Lib.hid hqv
      clear hl hi hlt hqv
      go_wp2_with (fail)
      exact HQV.out _ _ _ _ _ _ _ _ _ _ _ _ _ _ _ _ _ _ _ _ _ _ _ _ _ _ _ _ _ _ _ _ _ _ _ _ _ _ _ HL2
end Go.Proofs.YtbodiioemohenaaDoor

/- The developers' lay. Premise: the disk's contracts. -/
namespace Go.Proofs.YtbodiioemohenaaDoor
open Go.RowKit

theorem JrLeft.of {DC : DiskW} {w w0 W : World} {X D H : Nat} {pp : Value} {st : JS} {S' : DS} {F : Nat → Prop} (hw : Below w.heap.size w w0) (hH : w.heap.size ≤ H) (h1 : ∃ F', JrAt DC W X D pp st S' F' ∧ ∀ j, F' j → F j ∨ w0.heap.size ≤ j) (h2 : Chg (fun j => F j ∨ j = H) w0 W) : JrLeft DC w W X D pp st S' F := by
  obtain ⟨F', h3, h4⟩ := h1
  refine ⟨⟨F', h3, fun j hj => (h4 j hj).imp id fun h => Nat.le_trans hw.size h⟩, ?_⟩
  refine (chg_below (F := F) hw).trans (h2.mono fun j hj => ?_)
  rcases hj with h | h
  · exact .inl h
  · subst h
    exact .inr hH
set_option maxRecDepth 100000 in
set_option maxHeartbeats 4000000 in
theorem jLay_any {DC : DiskW} {w : World} {X D : Nat} {pp : Value} {st : JS} {S : DS} {F : Nat → Prop} (h : JrAt DC w X D pp st S F) (u : Value) (bs : List UInt8) (hr : Rd w u bs) (hu : 0 < bs.length → ∀ j, u.ownBlock = some j → ¬ F j) (hb : bs.length ≤ 4096) (hp : st.p + cntR bs.length ≤ 1024) (hn : st.n < 256 ^ 8) (hnu : st.next < 1000000) (hd : S.dead = false) (ho : S.ops < 900000) :
    Calls Tryd.prog 25 #[.pointer (some ⟨X, 0, none⟩), u] w fun e w' => e = .returned (.int .i64 ((writesS S st.p (partsR bs st.n st.next)).2 : Int)) ∧ JrLeft DC w w' X D pp st (writesS S st.p (partsR bs st.n st.next)).1 F := by
  obtain ⟨Ab, cb, rfl, hcb, hcm, hA⟩ := hr.form
  have HH := Lib.hid h
  have HC : Hid (bs.length ≤ 4096 ∧ st.p = st.p ∧ st.p + cntR bs.length ≤ 1024 ∧ st.n < 256 ^ 8 ∧ S.dead = false ∧ S.ops < 900000 ∧ st.next < 1000000) := Lib.hid ⟨hb, rfl, hp, hn, hd, ho, hnu⟩
  have HRU : Hid (Rd w (.slice Ab bs.length cb) bs ∧ (0 < bs.length → ∀ j, (Value.slice Ab bs.length cb).ownBlock = some j → ¬ F j)) := Lib.hid ⟨hr, hu⟩
  have lI : (bs.length : Int) ≤ 9223372036854775807 := by omega
  have HP : Hid (∀ W, Calls Tryd.prog 23 #[.int .i64 (bs.length : Int)] W fun e W' => e = .returned (.int .i64 (cntR bs.length : Int)) ∧ W' = W) := Lib.hid fun W => jParts_any bs.length (by omega) W
  obtain ⟨c, hc⟩ : ∃ c, c = cntR bs.length := ⟨_, rfl⟩
  rw [← hc] at HP
  have HC0 := Lib.hid hc
  obtain ⟨n, hnn⟩ : ∃ n, n = st.n := ⟨_, rfl⟩
  obtain ⟨nu, hnn2⟩ : ∃ nu, nu = st.next := ⟨_, rfl⟩
  have LIM : Hid (∀ V, Below w.heap.size w V → V.cell? ⟨X, 3, none⟩ = some (.int .u64 (n : Int)) ∧ V.cell? ⟨X, 4, none⟩ = some (.int .i64 (nu : Int))) := Lib.hid fun V hV => by
    have h1 := (h.on hV).pr
    rw [hnn, hnn2]
    exact ⟨by rw [h1.cell]; rfl, by rw [h1.cell]; rfl⟩
  have HNN := Lib.hid hnn
  have HNU := Lib.hid hnn2
  have hB : Below w.heap.size w w := Below.refl _ _
  clear h hr hu hb hp hn hnu hd ho hcb hcm hA hc hnn hnn2
  go_enter Tryd.func25, Tryd.ntmps25
  go_upto_region 1 with (fail)
  go_region_held3 (fun V => V.cell? ⟨X, 3, none⟩ = some (.int .u64 (n : Int)) ∧ V.cell? ⟨X, 4, none⟩ = some (.int .i64 (nu : Int)))
    ((refine LIM.out _ ?_; (repeat (first | exact hB | refine Below.drew ?_ | refine Below.alloc ?_ (by simp) _ | refine below_drewN ?_ _))))
    (first
      | (go_at_call 23; refine (HP.out _).mono ?_; rintro e v2 ⟨rfl, rfl⟩))
  all_goals
    obtain ⟨H, hH⟩ : ∃ H, w.heap.size = H := ⟨_, rfl⟩
    obtain ⟨w5, hw5⟩ : ∃ W : World, W = (w.alloc (.cells #[.int .u64 (n : Int), .int .i64 (nu : Int), .int .i64 0, .int .i64 (c : Int), .int .i64 (bs.length : Int)] 75)).drew := ⟨_, rfl⟩
    have K5 : Hid (Blk w5 H 75 (Hj.v ⟨n, nu, 0, c, bs.length⟩)) := Lib.hid (by
      rw [hw5, ← hH]
      exact (Blk.made w 75 (Hj.v ⟨n, nu, 0, c, bs.length⟩)).drew)
    have HWB : Hid (Below w.heap.size w w5 ∧ w.heap.size ≤ H) := Lib.hid (by
      rw [hw5, ← hH]
      exact ⟨((Below.refl _ w).alloc (Nat.le_refl _) _).drew, Nat.le_refl _⟩)
    rw [← hw5, hH]
    clear hw5 hH hB
    have c3 : w5.cell? ⟨H, 3, none⟩ = some (.int .i64 (c : Int)) := by rw [K5.out.cell]; rfl
    go_wp2_with (fail)
    obtain rfl := HC0.out
    obtain rfl := HNN.out
    obtain rfl := HNU.out
    refine jly_loop _ _ _ _ _ _ _ _ _ _ _ _ _ _ _ _ _ _ _ _ _ _ _ _ _ _ _ _ _ _ _ _ _ _ _ _ _ _ _ _ _ _ _ _ _ _ _ _ _ _ _ _ _ _ H st.p st.n st.next 0 bs Ab cb w w5 HH HWB (Lib.hid ⟨HC.out.1, rfl, HC.out.2.2⟩) HRU K5 (Lib.hid ?_) (Lib.hid ?_)
    · intro u4 u6 u7 u8 u26 u27 u28 u29 u30 u31 u32 u33 u34 u35 u36 u37 u38 u39 u40 u41 u42 u43 u44 u45 u46 u47 u48 u49 u50 u51 u52 u53 u54 u55 u56 u57 u58 y w6 hl
      have HP2 : Hid (writesS S st.p (partsR bs st.n st.next) = (writesS S st.p ((partsR bs st.n st.next).take (cntR bs.length)))) := Lib.hid (by rw [List.take_of_length_le (by rw [partsR_length]; exact Nat.le_refl _)])
      go_wp2_with (fail)
      go_ret
      rw [HP2.out]
      exact ⟨by rw [hl.out.ok]; rfl, JrLeft.of HWB.out.1 HWB.out.2 hl.out.at' hl.out.chg⟩
    · intro u6 u7 u8 u25 u26 u27 u28 u29 u30 u31 u32 u33 u34 u35 u36 u37 u38 u39 u40 u41 u42 u43 u44 u45 u46 u47 u48 u49 u50 u51 u52 u53 u54 u55 u56 u57 u58 y w6 hl
      go_ret
      exact ⟨by rw [← hl.out.ans]; rfl, JrLeft.of HWB.out.1 HWB.out.2 hl.out.at' hl.out.chg⟩
end Go.Proofs.YtbodiioemohenaaDoor

/- The developers' wipe: bytes 00 into the records' sectors that have others, and a sync. Premise: the disk's contracts. -/
namespace Go.Proofs.YtbodiioemohenaaDoor
open Go.RowKit

/-- An operation behind a guard that is met. -/
theorem wpList_wanted {P : Program} {ops : Array Oper} {rest : List Oper} {o : Oper} {a : Act} {w : World} {Q : Exit → Act → World → Prop} (hw : Region.wanted o (yielded ops a.tmps) = true)
    (h : o.wp P a w (wpList P ops Q rest) Q) : wpList P ops Q (o :: rest) a w := by
  show (if Region.wanted o (yielded ops a.tmps) then o.wp P a w (wpList P ops Q rest) Q ∨ (o.asks P a w ∧ LetsOut Q) else wpList P ops Q rest (a.put o.dst undef) w)
  rw [if_pos hw]
  exact .inl h
theorem wp_to_arr {P : Program} {o : Oper} {a : Act} {w : World} {K : Act → World → Prop} {Q : Exit → Act → World → Prop} (ty : TypeId) (x : Operand) (ho : o.op = .sliceToArrayPointer ty x)
    (b off n l c : Nat) (e : TypeId) (hx : a.eval x = .slice (some ⟨b, off, none⟩) l c) (hu : P.underlying ty = some (.array n e)) (hl : n ≤ l)
    (h : K (a.put o.dst (.pointer (some ⟨b, off, none⟩))) w) : o.wp P a w K Q := by
  unfold Oper.wp execOp
  have e1 : ¬ l < n := by omega
  simp [ho, hx, Instr.arrayAt, underlying, hu, e1]
  exact h
theorem here_to_arr {P : Program} {ops : Array Oper} {rest : List Oper} {a : Act} {w : World} {Q : Exit → Act → World → Prop} {d : Option Tmp} {t : TypeId} {p : String} {f : Array Edge} {g : Option (Tmp × Bool)} {ty : TypeId} {x : Operand} (h : wpList P ops Q (⟨d, .sliceToArrayPointer ty x, t, p, f, g⟩ :: rest) a w) : wpList P ops Q (⟨d, .sliceToArrayPointer ty x, t, p, f, g⟩ :: rest) a w := h
theorem zero128 : (z128.map bv).toArray = Tryd.zeroCells63 := by kernel_rfl
theorem z128_length : z128.length = 128 := by simp [z128]
theorem okS_view {S : DS} {q : Nat} (hq : q < 1024) : (decide (viewS S 0 q = some z128)) = (okS S q && decide (sectB S.L (q : Int) = z128)) := by
  cases ht : okS S q with
  | true =>
    rw [view_ok ht, Bool.true_and]
    exact decide_eq_decide.2 ⟨fun h => Option.some.inj h, fun h => congrArg some h⟩
  | false =>
    rw [Bool.false_and]
    refine decide_eq_false fun h => ?_
    have h1 := (view_some.1 h).1
    rw [Nat.zero_add] at h1
    rw [okS_of hq h1] at ht
    cases ht
set_option maxRecDepth 100000 in
set_option maxHeartbeats 2000000 in
theorem jBlank_any {DC : DiskW} {w : World} {X D : Nat} {pp : Value} {st : JS} {S : DS} {F : Nat → Prop} (h : JrAt DC w X D pp st S F) (q : Nat) (hq : q < 1024) :
    Calls Tryd.prog 48 #[.pointer (some ⟨X, 0, none⟩), .int .i64 (q : Int)] w fun e w' => e = .returned (.bool (decide (viewS S 0 q = some z128))) ∧ Below w.heap.size w w' := by
  have HL : Hid ((sectB S.L (q : Int)).length = 128) := Lib.hid (sectB_len (DC.good h.dk) _)
  obtain ⟨t, ht⟩ : ∃ t, okS S q = t := ⟨_, rfl⟩
  have HRD : Hid (Calls Tryd.prog 63 #[.pointer (some ⟨D, 0, none⟩), .int .i64 (q : Int)] w fun e w' => ∃ u, e = .returned (.tuple #[u, .int .i64 (if t then 0 else 9)]) ∧ Rd w' u (if t then sectB S.L (q : Int) else []) ∧ (∀ j, u.ownBlock = some j → w.heap.size ≤ j) ∧ Below w.heap.size w w') := Lib.hid (by
    have ht2 := ht
    unfold okS at ht2
    rw [decide_eq_true hq, Bool.true_and] at ht2
    refine (DC.read h.dk (q : Int) (WalkArith.wf_i64 (by omega))).mono ?_
    rintro e w' ⟨u, rfl, h4, h5, h6⟩
    rw [readS_sect, if_neg (by omega), ht2] at h4 ⊢
    cases t with
    | true => exact ⟨u, rfl, h4, h5, h6⟩
    | false => exact ⟨u, rfl, h4, h5, h6⟩)
  rw [okS_view hq, ht]
  have c0 : w.cell? ⟨X, 0, none⟩ = some (.pointer (some ⟨D, 0, none⟩)) := by rw [h.pr.cell]; rfl
  obtain ⟨bs, hbs⟩ : ∃ bs, bs = sectB S.L (q : Int) := ⟨_, rfl⟩
  rw [← hbs] at HL HRD ⊢
  clear h ht hq hbs
  cases t with
  | true =>
    rw [Bool.true_and]
    have HRD2 : Hid (Calls Tryd.prog 63 #[.pointer (some ⟨D, 0, none⟩), .int .i64 (q : Int)] w fun e w' => ∃ u, e = .returned (.tuple #[u, .int .i64 0]) ∧ Rd w' u bs ∧ (∀ j, u.ownBlock = some j → w.heap.size ≤ j) ∧ Below w.heap.size w w') := HRD
    clear HRD
    obtain ⟨ans, hans⟩ : ∃ ans, ans = decide (bs = z128) := ⟨_, rfl⟩
    rw [← hans]
    have HANS := Lib.hid hans
    clear hans
    go_enter Tryd.func48, Tryd.ntmps48
    go_wp2_with (fail)
    refine HRD2.out.mono ?_
    rintro e w2 ⟨v, rfl, rv, ov, b2⟩
    obtain ⟨b, off, c, rfl, hat⟩ := At8.of rv (by rw [HL.out]; decide)
    have B2 := Lib.hid b2
    have HRA : Hid (w2.rangeAt b off (bs.map bv)) := Lib.hid fun j u hj => by
      rw [List.getElem?_map, Option.map_eq_some_iff] at hj
      obtain ⟨x, hx, rfl⟩ := hj
      obtain ⟨hl, rfl⟩ := List.getElem?_eq_some_iff.1 hx
      exact hat.cell j hl
    have HLE : Hid (128 ≤ bs.length) := Lib.hid (by rw [HL.out]; exact Nat.le_refl _)
    have HSZ : Hid ((Tryd.prog.info? 63).map (·.size) = some (bs.map bv).length) := Lib.hid (by rw [List.length_map, HL.out]; exact size128)
    obtain ⟨i0, hi0, hz0, hz1, hz2⟩ := info_parts info_u8
    have hEQ : ∀ W, (Op.equalIn 10000 63 (.agg (bs.map bv).toArray) (.agg (z128.map bv).toArray)).run Tryd.prog W = .ok (decide (bs = z128)) W := fun W => run_equal_bytes W 63 5 128 i0 Tryd.underlying63 Tryd.underlying5 hi0 hz1 bs z128 HL.out z128_length
    rw [zero128] at hEQ
    rw [← HANS.out] at hEQ
    clear rv ov b2 hat
    go_wp2_with (first
      | (with_reducible refine here_to_arr ?_
         refine wpList_wanted (by rfl) (wp_to_arr 63 (.tmp 19) rfl b off 128 bs.length c _ rfl Tryd.underlying63 HLE.out ?_))
      | (with_reducible refine here_load ?_
         refine wpList_wanted (by rfl) (wp_load_mid 63 (.tmp 20) rfl b off rfl (bs.map bv) _ HRA.out Tryd.underlying63 rfl HSZ.out ?_)))
    go_ret
    exact ⟨rfl, B2.out⟩
  | false =>
    rw [Bool.false_and]
    have HRD2 : Hid (Calls Tryd.prog 63 #[.pointer (some ⟨D, 0, none⟩), .int .i64 (q : Int)] w fun e w' => ∃ u, e = .returned (.tuple #[u, .int .i64 9]) ∧ Rd w' u [] ∧ (∀ j, u.ownBlock = some j → w.heap.size ≤ j) ∧ Below w.heap.size w w') := HRD
    clear HRD
    go_enter Tryd.func48, Tryd.ntmps48
    go_wp2_with (fail)
    refine HRD2.out.mono ?_
    rintro e w2 ⟨v, rfl, rv, ov, b2⟩
    have B2 := Lib.hid b2
    clear rv ov b2
    go_wp2_with (fail)
    go_ret
    exact ⟨rfl, B2.out⟩
end Go.Proofs.YtbodiioemohenaaDoor

/- The developers' wipe, its loop and the sync. Premise: the disk's contracts. -/
namespace Go.Proofs.YtbodiioemohenaaDoor
open Go.RowKit

/-- The first of the records' sectors that have others. -/
noncomputable def dirtyTo (S : DS) (i : Nat) : List Nat := ((List.range i).map fun i => 512 + i).filter fun i => !decide (viewS S 0 i = some z128)
theorem dirtyTo_all (S : DS) : dirtyS S = dirtyTo S 512 := rfl
theorem dirtyTo_succ (S : DS) (i : Nat) : dirtyTo S (i + 1) = dirtyTo S i ++ if viewS S 0 (512 + i) = some z128 then [] else [512 + i] := by
  unfold dirtyTo
  rw [List.range_succ, List.map_append, List.filter_append]
  congr 1
  by_cases h : viewS S 0 (512 + i) = some z128
  · rw [if_pos h]
    simp [h]
  · rw [if_neg h]
    simp [h]
theorem dirtyTo_lt {S : DS} {i q : Nat} (h : q ∈ dirtyTo S i) : 512 ≤ q ∧ q < 512 + i := by
  unfold dirtyTo at h
  rw [List.mem_filter, List.mem_map] at h
  obtain ⟨⟨a, h1, rfl⟩, _⟩ := h
  rw [List.mem_range] at h1
  omega
theorem dirtyTo_more (S : DS) (i : Nat) : ∀ j, ∃ l, dirtyTo S (i + j) = dirtyTo S i ++ l
  | 0 => ⟨[], by rw [List.append_nil]; rfl⟩
  | j + 1 => by
    obtain ⟨l, hl⟩ := dirtyTo_more S i j
    exact ⟨l ++ (if viewS S 0 (512 + (i + j)) = some z128 then [] else [512 + (i + j)]), by rw [← Nat.add_assoc, dirtyTo_succ, hl, List.append_assoc]⟩
theorem clear_append : ∀ (l m : List Nat) (S : DS), clearS S (l ++ m) = if (clearS S l).2 = 0 then clearS (clearS S l).1 m else clearS S l
  | [], m, S => by
    show clearS S m = if (0 : Nat) = 0 then clearS S m else (S, 0)
    rw [if_pos rfl]
  | i :: l, m, S => by
    show (if (writeS S (i : Int) []).2 = 0 then clearS (writeS S (i : Int) []).1 (l ++ m) else writeS S (i : Int) []) = _
    by_cases h : (writeS S (i : Int) []).2 = 0
    · have e : clearS S (i :: l) = clearS (writeS S (i : Int) []).1 l := by
        show (if (writeS S (i : Int) []).2 = 0 then _ else _) = _
        rw [if_pos h]
      rw [if_pos h, clear_append l m, e]
    · have e : clearS S (i :: l) = writeS S (i : Int) [] := by
        show (if (writeS S (i : Int) []).2 = 0 then _ else _) = _
        rw [if_neg h]
      rw [if_neg h, e, if_neg h]
theorem clear_to {S : DS} (h : (clearS S (dirtyS S)).2 = 0) {i : Nat} (hi : i ≤ 512) : (clearS S (dirtyTo S i)).2 = 0 := by
  obtain ⟨l, hl⟩ := dirtyTo_more S i (512 - i)
  rw [show i + (512 - i) = 512 by omega] at hl
  rw [dirtyTo_all, hl, clear_append] at h
  by_cases e : (clearS S (dirtyTo S i)).2 = 0
  · exact e
  · rw [if_neg e] at h
    exact h
theorem clear_ok : ∀ (is : List Nat) (S : DS), S.dead = false → (∀ i ∈ is, i < 1024) → (clearS S is).2 = 0 →
    (clearS S is).1.dead = false ∧ (clearS S is).1.ops ≤ S.ops + is.length ∧ ∀ q, q ∉ is → viewS (clearS S is).1 0 q = viewS S 0 q
  | [], _, hd, _, _ => ⟨hd, Nat.le_refl _, fun _ _ => rfl⟩
  | i :: is, S, hd, hi, he => by
    have hi0 := hi i (List.mem_cons_self ..)
    obtain ⟨h3, h4, h5⟩ := writeS_is hd (a := i) hi0 (x := []) (by decide)
    by_cases h1 : (writeS S (i : Int) []).2 = 0
    · have h6 : (writeS S (i : Int) []).1.dead = false := by
        rcases h5 with ⟨h5, _⟩ | ⟨_, h5⟩
        · rw [h1] at h5
          cases h5
        · exact h5
      have e : clearS S (i :: is) = clearS (writeS S (i : Int) []).1 is := by
        show (if (writeS S (i : Int) []).2 = 0 then _ else _) = _
        rw [if_pos h1]
      rw [e] at he ⊢
      obtain ⟨k1, k2, k3⟩ := clear_ok is _ h6 (fun j hj => hi j (List.mem_cons_of_mem _ hj)) he
      refine ⟨k1, by rw [List.length_cons]; omega, fun q hq => ?_⟩
      rw [k3 q fun h => hq (List.mem_cons_of_mem _ h), view_one h3, if_neg fun h => hq (by rw [h]; exact List.mem_cons_self ..)]
    · have e : clearS S (i :: is) = writeS S (i : Int) [] := by
        show (if (writeS S (i : Int) []).2 = 0 then _ else _) = _
        rw [if_neg h1]
      rw [e] at he
      exact absurd he h1
theorem dirtyTo_len (S : DS) (i : Nat) : (dirtyTo S i).length ≤ i := by
  unfold dirtyTo
  refine Nat.le_trans (List.length_filter_le _ _) ?_
  rw [List.length_map, List.length_range]
  exact Nat.le_refl _
def JwpRel (DC : DiskW) (w : World) (X D : Nat) (pp : Value) (st : JS) (S : DS) (F : Nat → Prop) (x : Value) (W : World) : Prop := ∃ i : Nat, x = .int .i64 ((512 + i : Nat) : Int) ∧ i ≤ 512 ∧ JrLeft DC w W X D pp st (clearS S (dirtyTo S i)).1 F
noncomputable def body_jwp : Code := (((Tryd.f34.body.map loopsOf).getD [])[0]?).getD .skip
set_option maxRecDepth 100000 in
set_option maxHeartbeats 4000000 in
theorem jwp_loop {DC : DiskW} (c1 c2 c4 c5 c6 c7 c8 c9 c10 c11 c12 c13 c14 c15 c16 c17 c18 c19 c20 c21 c22 c23 c24 c25 : Value) {X D : Nat} {pp : Value} {st : JS} {S : DS} {F : Nat → Prop} (w : World) (h0 : Hid (JrAt DC w X D pp st S F)) (hc : Hid (S.dead = false ∧ S.ops < 950000 ∧ (clearS S (dirtyS S)).2 = 0)) {Q : Exit → Act → World → Prop}
    (HQ : Hid (∀ (u2 u4 u5 u6 u7 u8 u9 u10 u11 u12 u13 u14 u15 u16 u17 u18 u19 u20 y : Value) (W : World), Hid (JrLeft DC w W X D pp st (clearS S (dirtyS S)).1 F) → Q (.exit 0) ⟨List.toArray ((.pointer (some ⟨X, 0, none⟩)) :: c1 :: u2 :: y :: u4 :: u5 :: u6 :: u7 :: u8 :: u9 :: u10 :: u11 :: u12 :: u13 :: u14 :: u15 :: u16 :: u17 :: u18 :: u19 :: u20 :: c21 :: c22 :: c23 :: c24 :: c25 :: []), []⟩ W)) :
    (Code.loop body_jwp).wp Tryd.prog Q ⟨List.toArray ((.pointer (some ⟨X, 0, none⟩)) :: c1 :: c2 :: (.int .i64 512) :: c4 :: c5 :: c6 :: c7 :: c8 :: c9 :: c10 :: c11 :: c12 :: c13 :: c14 :: c15 :: c16 :: c17 :: c18 :: c19 :: c20 :: c21 :: c22 :: c23 :: c24 :: c25 :: []), []⟩ w := by
  unfold body_jwp
  conv => arg 2; arg 1; whnf
  go_loopw [3] (fun x wx => JwpRel DC w X D pp st S F x wx) (fun x _ => 1024 - (intOf x).toNat)
  case atStart => exact ⟨0, rfl, Nat.zero_le _, JrLeft.refl h0.out⟩
  case round =>
    obtain ⟨i, rfl, hi, hl⟩ := hrel
    obtain ⟨q, hq⟩ : ∃ q, q = 512 + i := ⟨_, rfl⟩
    rw [← hq]
    have HQI := Lib.hid hq
    have HL := Lib.hid hl
    by_cases hlt : q < 1024
    · have qI : (q : Int) < 1024 := by omega
      have HLT := Lib.hid hlt
      obtain ⟨⟨F', hA, hF'⟩, hch⟩ := hl
      obtain ⟨Si, hSi⟩ : ∃ Si, Si = (clearS S (dirtyTo S i)).1 := ⟨_, rfl⟩
      rw [← hSi] at hA
      have hok := clear_ok (dirtyTo S i) S hc.out.1 (fun j hj => by have := dirtyTo_lt hj; omega) (clear_to hc.out.2.2 hi)
      rw [← hSi] at hok
      have hlen := dirtyTo_len S i
      have hvw : viewS Si 0 q = viewS S 0 q := hok.2.2 q fun h => by
        have := dirtyTo_lt h
        omega
      obtain ⟨bb, hbb⟩ : ∃ bb, decide (viewS S 0 q = some z128) = bb := ⟨_, rfl⟩
      have HBL : Hid (Calls Tryd.prog 48 #[.pointer (some ⟨X, 0, none⟩), .int .i64 (q : Int)] wr fun e w' => e = .returned (.bool bb) ∧ Below wr.heap.size wr w') := Lib.hid (by
        have h1 := jBlank_any hA q hlt
        rw [hvw, hbb] at h1
        exact h1)
      have HA := Lib.hid hA
      have HSI := Lib.hid hSi
      have HBB := Lib.hid hbb
      have HOK : Hid (Si.dead = false ∧ Si.ops < 960000) := Lib.hid ⟨hok.1, by have := hc.out.2.1; omega⟩
      have HFF : Hid ((∀ j, F' j → F j ∨ w.heap.size ≤ j) ∧ Chg F w wr) := Lib.hid ⟨hF', hch⟩
      have HI : Hid (i ≤ 512) := Lib.hid hi
      have e9 : IntKind.i64.wrap ((q : Int) + 1) = ((q + 1 : Nat) : Int) := by rw [IntWalk.i64_in _ (by omega)]; omega
      clear hlt hA hF' hch hSi hok hlen hvw hbb hi hq
      go_wp2_with (fail)
      refine HBL.out.mono ?_
      rintro e w2 ⟨rfl, b2⟩
      have B2 := Lib.hid b2
      have A2 := Lib.hid (HA.out.on b2)
      clear b2
      cases bb with
      | true =>
        go_wp2_with (fail)
        have hlt := HLT.out
        have hqi := HQI.out
        refine ⟨⟨i + 1, by rw [hqi]; go_num, by omega, ?_⟩, by simp [intOf]; omega⟩
        have h1 : dirtyTo S (i + 1) = dirtyTo S i := by
          rw [dirtyTo_succ, ← hqi, if_pos (of_decide_eq_true HBB.out), List.append_nil]
        rw [h1, ← HSI.out]
        exact ⟨⟨F', A2.out, HFF.out.1⟩, chg_join HFF.out.2 (chg_below B2.out)⟩
      | false =>
        have HW : Hid ((writeS Si (q : Int) []).2 = 0 ∧ (clearS S (dirtyTo S (i + 1))).1 = (writeS Si (q : Int) []).1) := Lib.hid (by
          have h1 := clear_to hc.out.2.2 (i := i + 1) (by have := HLT.out; have := HQI.out; omega)
          have h0 := clear_to hc.out.2.2 HI.out
          have h2 : dirtyTo S (i + 1) = dirtyTo S i ++ [q] := by
            rw [dirtyTo_succ, ← HQI.out, if_neg (of_decide_eq_false HBB.out)]
          rw [h2, clear_append, if_pos h0, ← HSI.out] at h1 ⊢
          have h3 : clearS Si [q] = if (writeS Si (q : Int) []).2 = 0 then ((writeS Si (q : Int) []).1, 0) else writeS Si (q : Int) [] := rfl
          rw [h3] at h1 ⊢
          by_cases e : (writeS Si (q : Int) []).2 = 0
          · rw [if_pos e]
            exact ⟨e, rfl⟩
          · rw [if_neg e] at h1
            exact absurd h1 e)
        have C3 : Hid (Calls Tryd.prog 37 #[.pointer (some ⟨D, 0, none⟩), .int .i64 (q : Int), .slice none 0 0] w2 fun e V' => e = .returned (.int .i64 0) ∧ JrLeft DC w2 V' X D pp st (writeS Si (q : Int) []).1 F') := Lib.hid (by
          refine (DC.write A2.out.dk (q : Int) (.slice none 0 0) [] (WalkArith.wf_i64 (by have := HLT.out; omega)) (Rd.nil _) (by decide) (by have := HOK.out.2; omega) fun h => by cases h).mono ?_
          rintro e V' ⟨rfl, hl⟩
          rw [HW.out.1]
          exact ⟨rfl, A2.out.left hl⟩)
        have c0 : w2.cell? ⟨X, 0, none⟩ = some (.pointer (some ⟨D, 0, none⟩)) := by rw [A2.out.pr.cell]; rfl
        go_wp2_with (fail)
        refine C3.out.mono ?_
        rintro e w4 ⟨rfl, l4⟩
        have L4 := Lib.hid (JrLeft.trans (chg_join HFF.out.2 (chg_below B2.out)) (fun j hj => HFF.out.1 j hj) l4)
        clear l4 c0
        go_wp2_with (fail)
        have hlt := HLT.out
        have hqi := HQI.out
        refine ⟨⟨i + 1, by rw [hqi]; go_num, by omega, ?_⟩, by simp [intOf]; omega⟩
        rw [HW.out.2]
        exact L4.out
    · have hi512 : i = 512 := by omega
      subst hi512
      have HB : Hid (JrLeft DC w wr X D pp st (clearS S (dirtyS S)).1 F) := Lib.hid HL.out
      have hq2 : ¬ (q : Int) < 1024 := by omega
      clear hl hi hlt hq
      go_wp2_with (fail)
      exact HQ.out _ _ _ _ _ _ _ _ _ _ _ _ _ _ _ _ _ _ _ _ HB
set_option maxRecDepth 100000 in
set_option maxHeartbeats 2000000 in
theorem jWipe_any {DC : DiskW} {w : World} {X D : Nat} {pp : Value} {st : JS} {S : DS} {F : Nat → Prop} (h : JrAt DC w X D pp st S F) (hd : S.dead = false) (ho : S.ops < 900000) (he : (clearS S (dirtyS S)).2 = 0) :
    Calls Tryd.prog 34 #[.pointer (some ⟨X, 0, none⟩)] w fun e w' => e = .returned (.int .i64 ((syncS (clearS S (dirtyS S)).1).2 : Int)) ∧ JrLeft DC w w' X D pp st (syncS (clearS S (dirtyS S)).1).1 F := by
  have HH := Lib.hid h
  have HC : Hid (S.dead = false ∧ S.ops < 950000 ∧ (clearS S (dirtyS S)).2 = 0) := Lib.hid ⟨hd, by omega, he⟩
  obtain ⟨S1, hS1⟩ : ∃ S1, S1 = (clearS S (dirtyS S)).1 := ⟨_, rfl⟩
  have HO : Hid (S1.ops < 1000000) := Lib.hid (by
    have h1 := (clear_ok (dirtyS S) S hd (fun j hj => (dirty_mem.1 hj).1.2) he).2.1
    have h2 := dirty_len S
    rw [hS1]
    omega)
  have HS1 := Lib.hid hS1
  rw [← hS1]
  clear h hd ho he hS1
  go_enter Tryd.func34, Tryd.ntmps34
  go_wp2_with (fail)
  refine jwp_loop _ _ _ _ _ _ _ _ _ _ _ _ _ _ _ _ _ _ _ _ _ _ _ _ w HH HC (Lib.hid ?_)
  intro u2 u4 u5 u6 u7 u8 u9 u10 u11 u12 u13 u14 u15 u16 u17 u18 u19 u20 y w2 hl
  obtain ⟨⟨F', h1, h2⟩, h3⟩ := hl.out
  rw [← HS1.out] at h1
  have A1 := Lib.hid h1
  have HFF : Hid ((∀ j, F' j → F j ∨ w.heap.size ≤ j) ∧ Chg F w w2) := Lib.hid ⟨h2, h3⟩
  have c0 : w2.cell? ⟨X, 0, none⟩ = some (.pointer (some ⟨D, 0, none⟩)) := by rw [h1.pr.cell]; rfl
  clear hl h1 h2 h3
  go_wp2_with (fail)
  refine (DC.sync A1.out.dk HO.out).mono ?_
  rintro e w3 ⟨rfl, hl⟩
  have L3 := Lib.hid (JrLeft.trans HFF.out.2 HFF.out.1 (A1.out.left hl))
  clear hl c0
  go_wp2_with (fail)
  go_ret
  exact ⟨rfl, L3.out⟩
end Go.Proofs.YtbodiioemohenaaDoor
