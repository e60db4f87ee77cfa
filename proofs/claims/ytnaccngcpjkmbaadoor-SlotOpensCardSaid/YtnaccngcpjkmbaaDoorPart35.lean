/- Part 35 of the words that the laws share: SlLay, SlLayM, SlWip, SlSav, SlK. No condition of its own: each theorem says its own. -/
import Derived.Test.YtnaccngcpjkmbaaDoorPart33
import Derived.Test.YtnaccngcpjkmbaaDoorPart34
import Derived.Test.YtnaccngcpjkmbaaDoorPart17
import Derived.Test.YtnaccngcpjkmbaaDoorPart15

/- The developers' lay: its loop over the parts. Premise: the disk's contracts. -/
namespace Go.Proofs.YtnaccngcpjkmbaaDoor
open Go.RowKit

theorem writesS_append : ∀ (xs ys : List (List UInt8)) (S : DS) (a : Nat), writesS S a (xs ++ ys) = if (writesS S a xs).2 = 0 then writesS (writesS S a xs).1 (a + xs.length) ys else writesS S a xs
  | [], ys, S, a => by
    show writesS S a ys = if (0 : Nat) = 0 then writesS S (a + 0) ys else (S, 0)
    rw [if_pos rfl, Nat.add_zero]
  | x :: xs, ys, S, a => by
    show (if (writeS S (a : Int) x).2 = 0 then writesS (writeS S (a : Int) x).1 (a + 1) (xs ++ ys) else writeS S (a : Int) x) = _
    by_cases h : (writeS S (a : Int) x).2 = 0
    · have e : writesS S a (x :: xs) = writesS (writeS S (a : Int) x).1 (a + 1) xs := by
        show (if (writeS S (a : Int) x).2 = 0 then _ else _) = _
        rw [if_pos h]
      rw [if_pos h, e, writesS_append xs ys, List.length_cons, show a + 1 + xs.length = a + (xs.length + 1) by omega]
    · have e : writesS S a (x :: xs) = writeS S (a : Int) x := by
        show (if (writeS S (a : Int) x).2 = 0 then _ else _) = _
        rw [if_neg h]
      rw [if_neg h, e, if_neg h]
theorem writesS_next {S : DS} {a i : Nat} {xs : List (List UInt8)} (hi : i < xs.length) (h : (writesS S a (xs.take i)).2 = 0) : writesS S a (xs.take (i + 1)) = writeS (writesS S a (xs.take i)).1 ((a + i : Nat) : Int) xs[i] := by
  rw [List.take_succ_eq_append_getElem hi, writesS_append, if_pos h, List.length_take, Nat.min_eq_left (by omega)]
  show (if (writeS _ _ _).2 = 0 then (_, 0) else _) = _
  by_cases h2 : (writeS (writesS S a (xs.take i)).1 ((a + i : Nat) : Int) xs[i]).2 = 0
  · rw [if_pos h2]
    exact Prod.ext rfl h2.symm
  · rw [if_neg h2]
theorem writesS_fail {S : DS} {a i : Nat} {xs : List (List UInt8)} (h : (writesS S a (xs.take i)).2 ≠ 0) : writesS S a xs = writesS S a (xs.take i) := by
  conv => lhs; rw [← List.take_append_drop i xs, writesS_append, if_neg h]
/-- What a call leaves of the pair's disk. -/
structure SlLeft (DC : DiskW) (w W : World) (X a k D : Nat) (S' : DS) (F : Nat → Prop) : Prop where
  at' : ∃ F', SlAt DC W X a k D S' F' ∧ ∀ j, F' j → F j ∨ w.heap.size ≤ j
  chg : Chg F w W
/-- What a call of the disk's leaves of a pair. -/
theorem SlAt.left {DC : DiskW} {w w' : World} {X a k D : Nat} {S S' : DS} {F : Nat → Prop} (h : SlAt DC w X a k D S F) (hl : DLeft DC.Is w w' (.pointer (some ⟨D, 0, none⟩)) S' F) : SlLeft DC w w' X a k D S' F := by
  obtain ⟨⟨F', h1, h2⟩, h3⟩ := hl
  refine ⟨⟨F', ⟨h3.blk h.pr fun e => h.ap X e rfl, h1, fun j hj e => ?_, h.k1, h.room⟩, h2⟩, h3⟩
  subst e
  rcases h2 j hj with h4 | h4
  · exact h.ap j h4 rfl
  · have := h.pr.lt
    omega
structure LayIs (DC : DiskW) (w0 : World) (X a k D : Nat) (S : DS) (F : Nat → Prop) (H q0 n : Nat) (bs : List UInt8) (i : Nat) (W : World) : Prop where
  ok : (writesS S q0 ((partsS fp8 bs n).take i)).2 = 0
  on : (writesS S q0 ((partsS fp8 bs n).take i)).1.dead = false
  ops : (writesS S q0 ((partsS fp8 bs n).take i)).1.ops = S.ops + i
  at' : ∃ F', SlAt DC W X a k D (writesS S q0 ((partsS fp8 bs n).take i)).1 F' ∧ ∀ j, F' j → F j ∨ w0.heap.size ≤ j
  told : ∃ p, Blk W H 81 (Hd.v ⟨n, p, cntS bs.length, bs.length, numB (fp8 bs)⟩)
  chg : Chg (fun j => F j ∨ j = H) w0 W
/-- When a write goes wrong. -/
structure LayBad (DC : DiskW) (w0 : World) (X a k D : Nat) (S : DS) (F : Nat → Prop) (H q0 n : Nat) (bs : List UInt8) (e : Value) (W : World) : Prop where
  bad : (writesS S q0 (partsS fp8 bs n)).2 ≠ 0
  ans : e = .int .i64 ((writesS S q0 (partsS fp8 bs n)).2 : Int)
  at' : ∃ F', SlAt DC W X a k D (writesS S q0 (partsS fp8 bs n)).1 F' ∧ ∀ j, F' j → F j ∨ w0.heap.size ≤ j
  chg : Chg (fun j => F j ∨ j = H) w0 W
def LayRel (DC : DiskW) (w0 : World) (X a k D : Nat) (S : DS) (F : Nat → Prop) (H q0 n : Nat) (bs : List UInt8) (x : Value) (W : World) : Prop := ∃ i : Nat, x = .int .i64 (i : Int) ∧ i ≤ cntS bs.length ∧ LayIs DC w0 X a k D S F H q0 n bs i W
noncomputable def body_lay : Code := (((Tryd.f33.body.map loopsOf).getD [])[0]?).getD .skip
set_option maxRecDepth 100000 in
set_option maxHeartbeats 4000000 in
theorem lay_loop {DC : DiskW} (c2 c4 c5 c6 c7 c8 c10 c11 c12 c13 c14 c15 c16 c17 c18 c19 c20 c21 c22 c23 c24 c27 c28 c29 c30 c31 c32 c33 c34 c35 c36 c37 c38 c39 c40 c41 c42 c43 c44 c45 c46 c47 c48 c49 c50 c51 c52 c53 c54 c55 c56 c57 : Value) {X a k D : Nat} {S : DS} {F : Nat → Prop} (H q0 n p0 sl : Nat) (bs : List UInt8) (Ab : Option Addr) (cb : Nat) (w w0 : World) (h0 : Hid (SlAt DC w X a k D S F)) (hw : Hid (Below w.heap.size w w0 ∧ w.heap.size ≤ H)) (hc : Hid (bs.length ≤ 104 * k ∧ sl ≤ 1 ∧ q0 = a + sl * k ∧ n < 256 ^ 8 ∧ S.dead = false ∧ S.ops < 900000))
    (hr : Hid (Rd w (.slice Ab bs.length cb) bs ∧ (0 < bs.length → ∀ j, (Value.slice Ab bs.length cb).ownBlock = some j → ¬ F j))) (hT : Hid (Blk w0 H 81 (Hd.v ⟨n, p0, cntS bs.length, bs.length, numB (fp8 bs)⟩))) {Q : Exit → Act → World → Prop}
    (HQ : Hid (∀ (u8 u10 u11 u12 u27 u28 u29 u30 u31 u32 u33 u34 u35 u36 u37 u38 u39 u40 u41 u42 u43 u44 u45 u46 u47 u48 u49 u50 u51 u52 u53 u54 u55 u56 u57 y : Value) (W : World), Hid (LayIs DC w0 X a k D S F H q0 n bs (cntS bs.length) W) → Q (.exit 0) ⟨List.toArray ((.pointer (some ⟨X, 0, none⟩)) :: (.int .i64 (sl : Int)) :: c2 :: (.slice Ab bs.length cb) :: c4 :: c5 :: c6 :: c7 :: u8 :: (.pointer (some ⟨H, 0, none⟩)) :: u10 :: u11 :: u12 :: c13 :: c14 :: c15 :: c16 :: c17 :: c18 :: c19 :: c20 :: c21 :: c22 :: c23 :: c24 :: (.int .i64 (cntS bs.length : Int)) :: y :: u27 :: u28 :: u29 :: u30 :: u31 :: u32 :: u33 :: u34 :: u35 :: u36 :: u37 :: u38 :: u39 :: u40 :: u41 :: u42 :: u43 :: u44 :: u45 :: u46 :: u47 :: u48 :: u49 :: u50 :: u51 :: u52 :: u53 :: u54 :: u55 :: u56 :: u57 :: []), []⟩ W))
    (HE : Hid (∀ (u10 u11 u12 u26 u27 u28 u29 u30 u31 u32 u33 u34 u35 u36 u37 u38 u39 u40 u41 u42 u43 u44 u45 u46 u47 u48 u49 u50 u51 u52 u53 u54 u55 u56 u57 v : Value) (W : World), Hid (LayBad DC w0 X a k D S F H q0 n bs v W) → Q .ret ⟨List.toArray ((.pointer (some ⟨X, 0, none⟩)) :: (.int .i64 (sl : Int)) :: c2 :: (.slice Ab bs.length cb) :: c4 :: c5 :: c6 :: c7 :: v :: (.pointer (some ⟨H, 0, none⟩)) :: u10 :: u11 :: u12 :: c13 :: c14 :: c15 :: c16 :: c17 :: c18 :: c19 :: c20 :: c21 :: c22 :: c23 :: c24 :: (.int .i64 (cntS bs.length : Int)) :: u26 :: u27 :: u28 :: u29 :: u30 :: u31 :: u32 :: u33 :: u34 :: u35 :: u36 :: u37 :: u38 :: u39 :: u40 :: u41 :: u42 :: u43 :: u44 :: u45 :: u46 :: u47 :: u48 :: u49 :: u50 :: u51 :: u52 :: u53 :: u54 :: u55 :: u56 :: u57 :: []), []⟩ W)) :
    (Code.loop body_lay).wp Tryd.prog Q ⟨List.toArray ((.pointer (some ⟨X, 0, none⟩)) :: (.int .i64 (sl : Int)) :: c2 :: (.slice Ab bs.length cb) :: c4 :: c5 :: c6 :: c7 :: c8 :: (.pointer (some ⟨H, 0, none⟩)) :: c10 :: c11 :: c12 :: c13 :: c14 :: c15 :: c16 :: c17 :: c18 :: c19 :: c20 :: c21 :: c22 :: c23 :: c24 :: (.int .i64 (cntS bs.length : Int)) :: (.int .i64 0) :: c27 :: c28 :: c29 :: c30 :: c31 :: c32 :: c33 :: c34 :: c35 :: c36 :: c37 :: c38 :: c39 :: c40 :: c41 :: c42 :: c43 :: c44 :: c45 :: c46 :: c47 :: c48 :: c49 :: c50 :: c51 :: c52 :: c53 :: c54 :: c55 :: c56 :: c57 :: []), []⟩ w0 := by
  unfold body_lay
  conv => arg 2; arg 1; whnf
  go_loopw [26] (fun x wx => LayRel DC w0 X a k D S F H q0 n bs x wx) (fun x _ => cntS bs.length - (intOf x).toNat)
  case atStart => exact ⟨0, rfl, Nat.zero_le _, rfl, hc.out.2.2.2.2.1, rfl, ⟨F, h0.out.on hw.out.1, fun j hj => .inl hj⟩, ⟨p0, hT.out⟩, Chg.refl _ _⟩
  case round =>
    obtain ⟨i, rfl, hi, hl⟩ := hrel
    have hroom := h0.out.room
    have hk1 := h0.out.k1
    have hc104 := hc.out.1
    obtain ⟨c, hcn⟩ : ∃ c, c = cntS bs.length := ⟨_, rfl⟩
    have hck : c ≤ k := by rw [hcn]; exact cntS_le hc104 hk1
    have HCN := Lib.hid hcn
    rw [← hcn] at hi ⊢
    have cI : (c : Int) ≤ 1024 := by omega
    have HL := Lib.hid hl
    by_cases hlt : i < c
    · have iI : (i : Int) < c := by omega
      have HLT := Lib.hid hlt
      obtain ⟨i0, hi0, hz0, hz1, hz2⟩ := info_parts info_u8
      obtain ⟨p, hp⟩ := hl.told
      rw [← hcn] at hp
      have TP := Lib.hid hp
      have c1 : wr.cell? ⟨H, 1, none⟩ = some (.int .i64 (p : Int)) := by rw [hp.cell]; rfl
      have f1 : wr.frozen? ⟨H, 1, none⟩ = false := hp.free 1
      obtain ⟨w6, hw6⟩ : ∃ W : World, W = wr.setCell ⟨H, 1, none⟩ (.int .i64 (i : Int)) := ⟨_, rfl⟩
      have T6 : Hid (Blk w6 H 81 (Hd.v ⟨n, i, c, bs.length, numB (fp8 bs)⟩)) := Lib.hid (by rw [hw6]; exact hp.set 1 (.int .i64 (i : Int)))
      have S6 : Hid (Sole wr w6 H) := Lib.hid (by rw [hw6]; exact Sole.setCell _ _ _ _)
      clear hp hl hi hlt hk1
      go_upto_region 6 with (fail)
      rw [← hw6]
      clear hw6 c1 f1
      obtain ⟨q, hq⟩ : ∃ q, q = i * 104 := ⟨_, rfl⟩
      obtain ⟨pe, hpe⟩ : ∃ pe, pe = min ((i + 1) * 104) bs.length := ⟨_, rfl⟩
      have hib : i * 104 ≤ bs.length ∧ i < c := by
        have h1 := HLT.out
        have h2 := HCN.out
        unfold cntS at h2
        split at h2 <;> omega
      have hF : ∀ j, F j → j < w.heap.size := DC.lt h0.out.dk
      have hr6 : Rd w6 (.slice Ab bs.length cb) bs := by
        have h1 := hr.out.1.below hw.out.1
        have h2 : Rd wr (.slice Ab bs.length cb) bs := chg_rd0 HL.out.chg h1 fun hp j hj e => by
          rcases e with e | e
          · exact hr.out.2 hp j hj e
          · have h3 := rd_elder hr.out.1 j hj hp
            have h4 := hw.out.2
            omega
        exact chg_rd0 (sole_only S6.out) h2 fun hp j hj e => by
          have h3 := rd_elder hr.out.1 j hj hp
          have h4 := hw.out.2
          have e1 : j = H := e
          omega
      obtain ⟨A6, k6, hs6, hm6⟩ := hr6.mid 23 5 i0 Tryd.underlying23 hi0 hz1 q pe (by omega) (by omega)
      have hqI : ((q : Nat) : Int) = (i : Int) * 104 := by omega
      rw [hqI] at hs6
      have HM6 := Lib.hid hm6
      have HPT : Hid (hdrS n i c bs.length (fp8 bs) ++ (bs.drop q).take (pe - q) = partS fp8 bs n i) := Lib.hid (by
        unfold partS
        rw [← HCN.out, hq, Nat.mul_comm i 104]
        congr 1
        by_cases h : bs.length ≤ (i + 1) * 104
        · rw [List.take_of_length_le (by rw [List.length_drop]; omega), List.take_of_length_le (by rw [List.length_drop]; omega)]
        · rw [show pe - 104 * i = 104 by omega])
      have HPL : Hid (((bs.drop q).take (pe - q)).length ≤ 104) := Lib.hid (by rw [List.length_take]; omega)
      obtain ⟨s, hsm⟩ : ∃ s, s = numB (fp8 bs) := ⟨_, rfl⟩
      rw [← hsm] at T6
      have T4e := Lib.hid hsm
      have hs8 : leB 8 s = fp8 bs := by rw [hsm]; exact leB_numB 8 _ (fp8_length bs)
      have hsl : s < 256 ^ 8 := by
        rw [hsm]
        have h1 := numB_lt (fp8 bs)
        rw [fp8_length] at h1
        exact h1
      obtain ⟨F', hA, hF'⟩ := HL.out.at'
      obtain ⟨Si, hSi⟩ : ∃ Si, Si = (writesS S q0 ((partsS fp8 bs n).take i)).1 := ⟨_, rfl⟩
      have hon := HL.out.on
      have hops := HL.out.ops
      rw [← hSi] at hA hon hops
      have hHF : ¬ F' H := fun e => by
        have h2 := hw.out.2
        have h3 := hT.out.lt
        rcases hF' H e with h1 | h1
        · have := hF H h1
          omega
        · omega
      have hXH : X ≠ H := by
        have h1 := h0.out.pr.lt
        have h2 := hw.out.2
        omega
      have hA6 : SlAt DC w6 X a k D Si F' := hA.chg (sole_only S6.out) hXH fun j hj e => by
        have e1 : j = H := e
        exact hHF (e1 ▸ hj)
      have AT := Lib.hid hA6
      have HFF : Hid ((∀ j, F' j → F j ∨ w0.heap.size ≤ j) ∧ ¬ F' H ∧ X ≠ H) := Lib.hid ⟨hF', hHF, hXH⟩
      obtain ⟨qq, hqq⟩ : ∃ qq, qq = q0 + i := ⟨_, rfl⟩
      have hslk : sl * k ≤ 1 * k := Nat.mul_le_mul hc.out.2.1 (Nat.le_refl k)
      have hq0 := hc.out.2.2.1
      have hqq2 : a + sl * k + i = qq := by rw [hqq, hq0]
      obtain ⟨part, hpart⟩ : ∃ part, part = partS fp8 bs n i := ⟨_, rfl⟩
      have hpl : part.length ≤ 128 := by rw [hpart]; exact partS_length fp8 fp8_length bs n i
      obtain ⟨S2, hS2⟩ : ∃ S2, S2 = (writeS Si (qq : Int) part).1 := ⟨_, rfl⟩
      obtain ⟨cd, hcd⟩ : ∃ cd, cd = (writeS Si (qq : Int) part).2 := ⟨_, rfl⟩
      have HNX : Hid (writesS S q0 ((partsS fp8 bs n).take (i + 1)) = (S2, cd)) := Lib.hid (by
        have h1 : i < (partsS fp8 bs n).length := by rw [partsS_length, ← HCN.out]; exact HLT.out
        rw [writesS_next h1 HL.out.ok, ← hSi, ← hqq, show (partsS fp8 bs n)[i] = part by rw [hpart]; simp [partsS], hS2, hcd])
      have HWS : Hid (S2.ops = Si.ops + 1 ∧ ((cd = 10 ∧ S2.dead = true) ∨ (cd = 0 ∧ S2.dead = false))) := Lib.hid (by
        obtain ⟨_, h2, h3⟩ := writeS_is hon (a := qq) (by omega) (x := part) hpl
        rw [hS2, hcd]
        exact ⟨h2, h3⟩)
      have HOP : Hid (Si.ops = S.ops + i) := Lib.hid hops
      rw [← hpart] at HPT
      have C1 : Hid (∀ V, Below w6.heap.size w6 V → Calls Tryd.prog 42 #[.pointer (some ⟨X, 0, none⟩), .int .i64 (sl : Int), .int .i64 (i : Int)] V fun e V' => e = .returned (.int .i64 (qq : Int)) ∧ Below w6.heap.size w6 V') := Lib.hid fun V hV => by
        refine (slSector_any (AT.out.on hV).pr sl i hc.out.2.1 (by omega) (by omega) (by omega)).mono ?_
        rintro e w' ⟨rfl, m, rfl⟩
        rw [hqq2]
        exact ⟨rfl, below_drewN hV m⟩
      have C2 : Hid (∀ V, Below w6.heap.size w6 V → Calls Tryd.prog 51 #[.agg #[.int .u64 (n : Int), .int .i64 (i : Int), .int .i64 (c : Int), .int .i64 (bs.length : Int), .int .u64 (s : Int)]] V fun e V' => ∃ v, e = .returned v ∧ V'.ownsRow w6.heap.size 5 1 v 24 ((hdrS n i c bs.length (fp8 bs)).map bv) ∧ Below w6.heap.size w6 V') := Lib.hid fun V hV => by
        refine (slForm_any ⟨n, i, c, bs.length, s⟩ hc.out.2.2.2.1 (show i < 65536 by omega) (show c < 65536 by omega) (show bs.length < 4294967296 by omega) hsl V).mono ?_
        rintro e V' ⟨v, rfl, ho, hb⟩
        have e1 : leB 8 n ++ leB 2 i ++ leB 2 c ++ leB 4 bs.length ++ leB 8 s = hdrS n i c bs.length (fp8 bs) := by
          unfold hdrS
          rw [hs8]
        have e2 : (leB 8 n ++ leB 2 i ++ leB 2 c ++ leB 4 bs.length ++ leB 8 s).length = 24 := by rw [e1]; exact hdrS_length _ _ _ _ (fp8_length bs)
        have ho : V'.ownsRow V.heap.size 5 1 v (leB 8 n ++ leB 2 i ++ leB 2 c ++ leB 4 bs.length ++ leB 8 s).length ((leB 8 n ++ leB 2 i ++ leB 2 c ++ leB 4 bs.length ++ leB 8 s).map bv) := ho
        rw [e2, e1] at ho
        exact ⟨v, rfl, own_mono ho hV.size, hV.trans (hb.mono hV.size)⟩
      have C3 : Hid (∀ V v m xs, Below w6.heap.size w6 V → V.ownsRow w6.heap.size 5 1 v m (xs.map bv) → xs = part → Calls Tryd.prog 18 #[.pointer (some ⟨D, 0, none⟩), .int .i64 (qq : Int), v] V fun e V' => e = .returned (.int .i64 (cd : Int)) ∧ SlLeft DC w6 V' X a k D S2 F') := Lib.hid fun V v m xs hV ho hx => by
        subst hx
        have h1 := AT.out.on hV
        refine (DC.write h1.dk (qq : Int) v xs (WalkArith.wf_i64 (by omega)) (Rd.of_own ho) (by omega) (by have := hc.out.2.2.2.2.2; omega) fun _ j hj e => ?_).mono ?_
        · have h2 := (ho.lt j hj).1
          have h3 := DC.lt AT.out.dk j e
          omega
        rintro e V' ⟨rfl, hl⟩
        rw [← hcd]
        refine ⟨rfl, ?_⟩
        obtain ⟨⟨F2, h4, h5⟩, h6⟩ := h1.left hl
        rw [hS2]
        exact ⟨⟨F2, h4, fun j hj => (h5 j hj).imp id fun h => Nat.le_trans hV.size h⟩, chg_join (chg_below hV) h6⟩
      have LIM : Hid (∀ V, Below w6.heap.size w6 V → V.cell? ⟨X, 0, none⟩ = some (.pointer (some ⟨D, 0, none⟩)) ∧ V.cell? ⟨H, 0, none⟩ = some (.int .u64 (n : Int)) ∧ V.cell? ⟨H, 1, none⟩ = some (.int .i64 (i : Int)) ∧ V.cell? ⟨H, 2, none⟩ = some (.int .i64 (c : Int)) ∧ V.cell? ⟨H, 3, none⟩ = some (.int .i64 (bs.length : Int)) ∧ V.cell? ⟨H, 4, none⟩ = some (.int .u64 (s : Int))) := Lib.hid fun V hV => by
        have h1 := T6.out.below hV T6.out.lt
        refine ⟨?_, ?_, ?_, ?_, ?_, ?_⟩
        · rw [(AT.out.on hV).pr.cell]; rfl
        all_goals rw [h1.cell]; rfl
      have LIW : Hid (∀ V, SlLeft DC w6 V X a k D S2 F' → V.cell? ⟨X, 0, none⟩ = some (.pointer (some ⟨D, 0, none⟩)) ∧ V.cell? ⟨H, 0, none⟩ = some (.int .u64 (n : Int)) ∧ V.cell? ⟨H, 1, none⟩ = some (.int .i64 (i : Int)) ∧ V.cell? ⟨H, 2, none⟩ = some (.int .i64 (c : Int)) ∧ V.cell? ⟨H, 3, none⟩ = some (.int .i64 (bs.length : Int)) ∧ V.cell? ⟨H, 4, none⟩ = some (.int .u64 (s : Int))) := Lib.hid fun V hV => by
        have h1 := hV.chg.blk T6.out HFF.out.2.1
        obtain ⟨F2, h2, _⟩ := hV.at'
        refine ⟨?_, ?_, ?_, ?_, ?_, ?_⟩
        · rw [h2.pr.cell]; rfl
        all_goals rw [h1.cell]; rfl
      have HPM : Hid (24 + ((bs.drop q).take (pe - q)).length ≤ 140737488355328) := Lib.hid (by have := HPL.out; omega)
      have hB6 : Below w6.heap.size w6 w6 := Below.refl _ _
      have HM6B : Hid (∀ V, Below w6.heap.size w6 V → Rd V (.slice A6 (pe - q) k6) ((bs.drop q).take (pe - q))) := Lib.hid fun V hV => HM6.out.below hV
      clear hr6 hm6 hF hs8 hsl hA hF' hSi hon hops hHF hXH hA6 hqq hslk hq0 hqq2 hpl hS2 hcd hsm hpart hcn hck hc104 hroom
      by_cases hle : (bs.length : Int) < ((i : Int) + 1) * 104
      case' pos =>
        have hpI : ((pe : Nat) : Int) = (bs.length : Int) := by omega
        rw [hpI] at hs6
        have HSL := Lib.hid hs6
        clear hs6 hpI hqI hq hpe hib
        go_upto_region 7 with (first
          | (with_reducible refine here_slice ?_
             refine wpList_slice_is rfl 23 _ Tryd.underlying23 _ _ _ rfl _ _ _ _ _ _ rfl rfl rfl HSL.out ?_))
      case' neg =>
        have hpI : ((pe : Nat) : Int) = ((i : Int) + 1) * 104 := by omega
        rw [hpI] at hs6
        have HSL := Lib.hid hs6
        clear hs6 hpI hqI hq hpe hib
        go_upto_region 7 with (first
          | (with_reducible refine here_slice ?_
             refine wpList_slice_is rfl 23 _ Tryd.underlying23 _ _ _ rfl _ _ _ _ _ _ rfl rfl rfl HSL.out ?_))
      all_goals
        go_region_held3 (fun V => V.cell? ⟨X, 0, none⟩ = some (.pointer (some ⟨D, 0, none⟩)) ∧ V.cell? ⟨H, 0, none⟩ = some (.int .u64 (n : Int)) ∧ V.cell? ⟨H, 1, none⟩ = some (.int .i64 (i : Int)) ∧ V.cell? ⟨H, 2, none⟩ = some (.int .i64 (c : Int)) ∧ V.cell? ⟨H, 3, none⟩ = some (.int .i64 (bs.length : Int)) ∧ V.cell? ⟨H, 4, none⟩ = some (.int .u64 (s : Int)))
          (first | assumption | exact LIM.out _ (by assumption) | exact LIM.out _ (Below.drew (by assumption)) | exact LIW.out _ (by assumption))
          (first
            | (go_at_call 42; refine (C1.out _ ?_).mono ?_; (first | assumption | exact Below.drew (by assumption)); rintro e v1 ⟨rfl, b1⟩)
            | (go_at_call 51; refine (C2.out _ ?_).mono ?_; (first | assumption | exact Below.drew (by assumption)); rintro e v2 ⟨v, rfl, o2, b2⟩)
            | (refine step_append_rd0 _ (by rfl) _ _ _ (by rfl) w6.heap.size 5 i0 _ Tryd.underlying23 hi0 hz0 hz1 hz2 rfl _ _ _ (by rfl) o2 _ ((bs.drop q).take (pe - q)) (by rfl) (HM6B.out _ b2) HPM.out b2.size ?_; intro u3 w3 o3 g3; have b3 := b2.grown g3 b2.size (own_ge o2))
            | (go_at_call 18; refine (C3.out _ _ (24 + ((bs.drop q).take (pe - q)).length) (hdrS n i c bs.length (fp8 bs) ++ (bs.drop q).take (pe - q)) b3 (by rw [List.map_append]; exact o3) HPT.out).mono ?_; rintro e v4 ⟨rfl, l4⟩))
        have CH : Hid (Chg (fun j => F j ∨ j = H) w0 v4) := Lib.hid (by
          have h1 : Chg (fun j => F j ∨ j = H) w0 w6 := chg_join HL.out.chg ((sole_only S6.out).mono fun j hj => .inr hj)
          exact h1.trans (l4.chg.mono fun j hj => (HFF.out.1 j hj).elim (fun h => .inl (.inl h)) .inr))
        have AT4 : Hid (∃ F2, SlAt DC v4 X a k D S2 F2 ∧ ∀ j, F2 j → F j ∨ w0.heap.size ≤ j) := Lib.hid (by
          obtain ⟨F2, h1, h2⟩ := l4.at'
          have h3 := HL.out.chg.size
          have h4 := S6.out.size
          exact ⟨F2, h1, fun j hj => (h2 j hj).elim (fun h => HFF.out.1 j h) fun h => .inr (by omega)⟩)
        have T4 : Hid (Blk v4 H 81 (Hd.v ⟨n, i, c, bs.length, s⟩)) := Lib.hid (l4.chg.blk T6.out HFF.out.2.1)
        clear l4 b1 b2 b3 o2 o3 g3 hB6
        obtain ⟨hso, hcs⟩ := HWS.out
        rcases hcs with ⟨rfl, hd⟩ | ⟨rfl, hd⟩
        · have HB : Hid (LayBad DC w0 X a k D S F H q0 n bs (.int .i64 10) v4) := Lib.hid (by
            have h1 : (writesS S q0 ((partsS fp8 bs n).take (i + 1))).2 ≠ 0 := by rw [HNX.out]; exact (show (10 : Nat) ≠ 0 by decide)
            have h2 := writesS_fail h1
            rw [HNX.out] at h2
            exact ⟨by rw [h2]; exact (show (10 : Nat) ≠ 0 by decide), by rw [h2]; rfl, by rw [h2]; exact AT4.out, CH.out⟩)
          clear hso hd
          have hev := HE.out
          rw [← HCN.out] at hev
          have HEV := Lib.hid hev
          clear hev
          go_wp2_with (fail)
          exact HEV.out _ _ _ _ _ _ _ _ _ _ _ _ _ _ _ _ _ _ _ _ _ _ _ _ _ _ _ _ _ _ _ _ _ _ _ _ _ HB
        · have HSO := Lib.hid hso
          have HD := Lib.hid hd
          clear hso hd
          go_wp2_with (fail)
          have hl := HLT.out
          refine ⟨⟨i + 1, by go_num, by rw [← HCN.out]; omega, ?_, ?_, ?_, ?_, ⟨i, ?_⟩, CH.out⟩, by simp [intOf]; omega⟩
          · rw [HNX.out]
          · rw [HNX.out]
            exact HD.out
          · rw [HNX.out]
            show S2.ops = _
            rw [HSO.out, HOP.out]
            omega
          · rw [HNX.out]
            exact AT4.out
          · have h4 := T4.out
            rw [T4e.out, HCN.out] at h4
            exact h4
    · obtain rfl : i = c := by omega
      have hqv := HQ.out
      rw [← HCN.out] at hqv
      have HL2 := Lib.hid hl
      have HQV := Lib.hid hqv
      clear hl hi hlt hqv
      go_wp2_with (fail)
      exact HQV.out _ _ _ _ _ _ _ _ _ _ _ _ _ _ _ _ _ _ _ _ _ _ _ _ _ _ _ _ _ _ _ _ _ _ _ _ _ HL2
end Go.Proofs.YtnaccngcpjkmbaaDoor

/- The developers' lay. Premise: the disk's contracts. -/
namespace Go.Proofs.YtnaccngcpjkmbaaDoor
open Go.RowKit

theorem SlLeft.of {DC : DiskW} {w w0 W : World} {X a k D H : Nat} {S' : DS} {F : Nat → Prop} (hw : Below w.heap.size w w0) (hH : w.heap.size ≤ H) (h1 : ∃ F', SlAt DC W X a k D S' F' ∧ ∀ j, F' j → F j ∨ w0.heap.size ≤ j) (h2 : Chg (fun j => F j ∨ j = H) w0 W) : SlLeft DC w W X a k D S' F := by
  obtain ⟨F', h3, h4⟩ := h1
  refine ⟨⟨F', h3, fun j hj => (h4 j hj).imp id fun h => Nat.le_trans hw.size h⟩, ?_⟩
  refine (chg_below (F := F) hw).trans (h2.mono fun j hj => ?_)
  rcases hj with h | h
  · exact .inl h
  · subst h
    exact .inr hH
set_option maxRecDepth 100000 in
set_option maxHeartbeats 4000000 in
theorem slLay_any {DC : DiskW} {w : World} {X a k D : Nat} {S : DS} {F : Nat → Prop} (h : SlAt DC w X a k D S F) (hs : Salts w) (sl n : Nat) (u : Value) (bs : List UInt8) (hr : Rd w u bs) (hu : 0 < bs.length → ∀ j, u.ownBlock = some j → ¬ F j) (hb : bs.length ≤ 104 * k) (hsl : sl ≤ 1) (hn : n < 256 ^ 8) (hd : S.dead = false) (ho : S.ops < 900000) :
    Calls Tryd.prog 33 #[.pointer (some ⟨X, 0, none⟩), .int .i64 (sl : Int), .int .u64 (n : Int), u] w fun e w' => e = .returned (.int .i64 ((writesS S (a + sl * k) (partsS fp8 bs n)).2 : Int)) ∧ SlLeft DC w w' X a k D (writesS S (a + sl * k) (partsS fp8 bs n)).1 F := by
  obtain ⟨Ab, cb, rfl, hcb, hcm, hA⟩ := hr.form
  have HH := Lib.hid h
  have HR := Lib.hid hr
  have HC : Hid (bs.length ≤ 104 * k ∧ sl ≤ 1 ∧ a + sl * k = a + sl * k ∧ n < 256 ^ 8 ∧ S.dead = false ∧ S.ops < 900000) := Lib.hid ⟨hb, hsl, rfl, hn, hd, ho⟩
  have HRU : Hid (Rd w (.slice Ab bs.length cb) bs ∧ (0 < bs.length → ∀ j, (Value.slice Ab bs.length cb).ownBlock = some j → ¬ F j)) := Lib.hid ⟨hr, hu⟩
  have hroom := h.room
  have lI : (bs.length : Int) ≤ 9223372036854775807 := by omega
  have HP : Hid (∀ W, Calls Tryd.prog 35 #[.int .i64 (bs.length : Int)] W fun e W' => e = .returned (.int .i64 (cntS bs.length : Int)) ∧ W' = W) := Lib.hid fun W => slParts_any bs.length (by omega) W
  obtain ⟨c, hc⟩ : ∃ c, c = cntS bs.length := ⟨_, rfl⟩
  obtain ⟨s, hsm⟩ : ∃ s, s = numB (fp8 bs) := ⟨_, rfl⟩
  rw [← hc] at HP
  have HC0 := Lib.hid hc
  have HS0 := Lib.hid hsm
  have HOF : Hid (∀ W, Below w.heap.size w W → Calls Tryd.prog 45 #[.slice (some ⟨W.heap.size, 0, none⟩) 1 1] (W.alloc (.cells #[.slice Ab bs.length cb] 23)) fun e V' => e = .returned (arrV (shaB bs)) ∧ Below w.heap.size w V') := Lib.hid fun W hW => by
    refine (of_any _ [bs] _ (rs_lone (t := 23) (hr.below hW)) (by simp; omega) (by simp) ((hs.below hW).alloc _)).mono ?_
    rintro e V' ⟨rfl, hb⟩
    rw [List.flatten_singleton]
    exact ⟨rfl, (hW.alloc hW.size _).trans (hb.mono (by have := hW.size; simp; omega))⟩
  have HSH : Hid (∀ W, Below w.heap.size w W → Calls Tryd.prog 44 #[arrV (shaB bs)] W fun e V' => e = .returned (.int .u64 (s : Int)) ∧ Below w.heap.size w V') := Lib.hid fun W hW => by
    refine (short_any (shaB bs) W (by simp [shaB, St.bytes, beB_length])).mono ?_
    rintro e V' ⟨rfl, hb⟩
    rw [hsm]
    exact ⟨rfl, hW.trans (hb.mono hW.size)⟩
  clear h hs hr hu hb hsl hn hd ho hcb hcm hA hc hsm hroom
  go_enter Tryd.func33, Tryd.ntmps33
  go_wp2_with (fail)
  refine (HP.out w).mono ?_
  rintro e w1 ⟨rfl, rfl⟩
  go_wp2_with (fail)
  refine (HOF.out w1 (Below.refl _ _)).mono ?_
  rintro e w2 ⟨rfl, b2⟩
  have B2 := Lib.hid b2
  clear b2
  go_wp2_with (fail)
  refine (HSH.out w2 B2.out).mono ?_
  rintro e w3 ⟨rfl, b3⟩
  have B3 := Lib.hid b3
  obtain ⟨H, hH⟩ : ∃ H, w3.heap.size = H := ⟨_, rfl⟩
  have HHH := Lib.hid hH
  clear b3 hH
  go_upto_region 2 with (first
    | (with_reducible refine here_alloc ?_
       refine wpList_alloc_w rfl 81 rfl hd0.v hd_zero H HHH.out ?_
       intro w4 k4 b4 z4
       have K4 := Lib.hid k4
       have B4 := Lib.hid b4
       have Z4 := Lib.hid z4
       clear k4 b4 z4)
    | (with_reducible refine here_store ?_
       refine wpList_store_blk rfl 81 _ _ rfl H 81 _ K4.out (Hd.v ⟨n, 0, c, bs.length, s⟩) rfl rfl rfl hd_info (hd_one _) ?_
       intro w5 k5 s5
       have K5 := Lib.hid k5
       have B5 := Lib.hid (B4.out.trans s5.below)
       clear k5 s5))
  have c2 : w5.cell? ⟨H, 2, none⟩ = some (.int .i64 (c : Int)) := by rw [K5.out.cell]; rfl
  have HWB : Hid (Below w1.heap.size w1 w5 ∧ w1.heap.size ≤ H) := Lib.hid (by
    have h1 : w1.heap.size ≤ H := by rw [← HHH.out]; exact B3.out.size
    exact ⟨B3.out.trans (B5.out.mono h1), h1⟩)
  go_wp2_with (fail)
  obtain rfl := HC0.out
  refine lay_loop _ _ _ _ _ _ _ _ _ _ _ _ _ _ _ _ _ _ _ _ _ _ _ _ _ _ _ _ _ _ _ _ _ _ _ _ _ _ _ _ _ _ _ _ _ _ _ _ _ _ _ _ H (a + sl * k) n 0 sl bs Ab cb w1 w5 HH HWB (Lib.hid ⟨HC.out.1, HC.out.2.1, rfl, HC.out.2.2.2⟩) HRU (Lib.hid (by rw [← HS0.out]; exact K5.out)) (Lib.hid ?_) (Lib.hid ?_)
  · intro u8 u10 u11 u12 u27 u28 u29 u30 u31 u32 u33 u34 u35 u36 u37 u38 u39 u40 u41 u42 u43 u44 u45 u46 u47 u48 u49 u50 u51 u52 u53 u54 u55 u56 u57 y w6 hl
    have HP2 : Hid (writesS S (a + sl * k) (partsS fp8 bs n) = (writesS S (a + sl * k) ((partsS fp8 bs n).take (cntS bs.length)))) := Lib.hid (by rw [List.take_of_length_le (by rw [partsS_length]; exact Nat.le_refl _)])
    go_wp2_with (fail)
    go_ret
    rw [HP2.out]
    exact ⟨by rw [hl.out.ok]; rfl, SlLeft.of HWB.out.1 HWB.out.2 hl.out.at' hl.out.chg⟩
  · intro u10 u11 u12 u26 u27 u28 u29 u30 u31 u32 u33 u34 u35 u36 u37 u38 u39 u40 u41 u42 u43 u44 u45 u46 u47 u48 u49 u50 u51 u52 u53 u54 u55 u56 u57 y w6 hl
    go_ret
    exact ⟨by rw [← hl.out.ans]; rfl, SlLeft.of HWB.out.1 HWB.out.2 hl.out.at' hl.out.chg⟩
end Go.Proofs.YtnaccngcpjkmbaaDoor

/- The developers' wipe: bytes 00 into the sectors behind the last part. Premise: the disk's contracts. -/
namespace Go.Proofs.YtnaccngcpjkmbaaDoor
open Go.RowKit

structure WipIs (DC : DiskW) (w : World) (X a k D : Nat) (S : DS) (F : Nat → Prop) (q1 : Nat) (zs : List (List UInt8)) (j : Nat) (W : World) : Prop where
  ok : (writesS S q1 (zs.take j)).2 = 0
  on : (writesS S q1 (zs.take j)).1.dead = false
  ops : (writesS S q1 (zs.take j)).1.ops = S.ops + j
  left : SlLeft DC w W X a k D (writesS S q1 (zs.take j)).1 F
structure WipBad (DC : DiskW) (w : World) (X a k D : Nat) (S : DS) (F : Nat → Prop) (q1 : Nat) (zs : List (List UInt8)) (e : Value) (W : World) : Prop where
  ans : e = .int .i64 ((writesS S q1 zs).2 : Int)
  left : SlLeft DC w W X a k D (writesS S q1 zs).1 F
def WipRel (DC : DiskW) (w : World) (X a k D : Nat) (S : DS) (F : Nat → Prop) (q1 c0 : Nat) (zs : List (List UInt8)) (x : Value) (W : World) : Prop := ∃ j : Nat, x = .int .i64 ((c0 + j : Nat) : Int) ∧ c0 + j ≤ k ∧ WipIs DC w X a k D S F q1 zs j W
theorem SlLeft.refl {DC : DiskW} {w : World} {X a k D : Nat} {S : DS} {F : Nat → Prop} (h : SlAt DC w X a k D S F) : SlLeft DC w w X a k D S F := ⟨⟨F, h, fun _ hj => .inl hj⟩, Chg.refl _ _⟩
theorem SlLeft.trans {DC : DiskW} {w w1 w2 : World} {X a k D : Nat} {S2 : DS} {F F1 : Nat → Prop} (hc : Chg F w w1) (hF : ∀ j, F1 j → F j ∨ w.heap.size ≤ j) (h2 : SlLeft DC w1 w2 X a k D S2 F1) : SlLeft DC w w2 X a k D S2 F := by
  obtain ⟨⟨F2, h3, h4⟩, h5⟩ := h2
  exact ⟨⟨F2, h3, fun j hj => (h4 j hj).elim (fun h => hF j h) fun h => .inr (Nat.le_trans hc.size h)⟩, hc.trans (h5.mono fun j hj => hF j hj)⟩
theorem SlLeft.below {DC : DiskW} {w w1 w2 : World} {X a k D : Nat} {S2 : DS} {F : Nat → Prop} (hb : Below w.heap.size w w1) (h2 : SlLeft DC w1 w2 X a k D S2 F) : SlLeft DC w w2 X a k D S2 F := SlLeft.trans (chg_below hb) (fun _ h => .inl h) h2
noncomputable def body_wip : Code := (((Tryd.f34.body.map loopsOf).getD [])[0]?).getD .skip
set_option maxRecDepth 100000 in
set_option maxHeartbeats 4000000 in
theorem wip_loop {DC : DiskW} (c2 c3 c4 c5 c6 c8 c9 c10 c11 c12 c13 c14 c15 c16 c17 c18 c19 c20 c21 c22 c23 c24 c25 c26 c27 c28 c29 : Value) {X a k D : Nat} {S : DS} {F : Nat → Prop} (q0 c0 sl : Nat) (zs : List (List UInt8)) (w : World) (h0 : Hid (SlAt DC w X a k D S F)) (hc : Hid (sl ≤ 1 ∧ q0 = a + sl * k ∧ zs = List.replicate (k - c0) [] ∧ S.dead = false ∧ S.ops < 950000 ∧ c0 ≤ k)) {Q : Exit → Act → World → Prop}
    (HQ : Hid (∀ (u6 u8 u10 u11 u12 u13 u14 u15 u16 u17 u18 u19 u20 u21 u22 u23 u24 u25 u26 u27 u28 u29 y : Value) (W : World), Hid (WipBad DC w X a k D S F (q0 + c0) zs (.int .i64 0) W) → Q (.exit 0) ⟨List.toArray ((.pointer (some ⟨X, 0, none⟩)) :: (.int .i64 (sl : Int)) :: c2 :: c3 :: c4 :: c5 :: u6 :: y :: u8 :: c9 :: u10 :: u11 :: u12 :: u13 :: u14 :: u15 :: u16 :: u17 :: u18 :: u19 :: u20 :: u21 :: u22 :: u23 :: u24 :: u25 :: u26 :: u27 :: u28 :: u29 :: []), []⟩ W))
    (HE : Hid (∀ (u7 u8 u10 u11 u12 u13 u14 u15 u16 u17 u18 u19 u20 u21 u22 u23 u24 u25 u26 u27 u28 u29 v : Value) (W : World), Hid (WipBad DC w X a k D S F (q0 + c0) zs v W) → Q .ret ⟨List.toArray ((.pointer (some ⟨X, 0, none⟩)) :: (.int .i64 (sl : Int)) :: c2 :: c3 :: c4 :: c5 :: v :: u7 :: u8 :: c9 :: u10 :: u11 :: u12 :: u13 :: u14 :: u15 :: u16 :: u17 :: u18 :: u19 :: u20 :: u21 :: u22 :: u23 :: u24 :: u25 :: u26 :: u27 :: u28 :: u29 :: []), []⟩ W)) :
    (Code.loop body_wip).wp Tryd.prog Q ⟨List.toArray ((.pointer (some ⟨X, 0, none⟩)) :: (.int .i64 (sl : Int)) :: c2 :: c3 :: c4 :: c5 :: c6 :: (.int .i64 (c0 : Int)) :: c8 :: c9 :: c10 :: c11 :: c12 :: c13 :: c14 :: c15 :: c16 :: c17 :: c18 :: c19 :: c20 :: c21 :: c22 :: c23 :: c24 :: c25 :: c26 :: c27 :: c28 :: c29 :: []), []⟩ w := by
  unfold body_wip
  conv => arg 2; arg 1; whnf
  go_loopw [7] (fun x wx => WipRel DC w X a k D S F (q0 + c0) c0 zs x wx) (fun x _ => k - (intOf x).toNat)
  case atStart => exact ⟨0, rfl, hc.out.2.2.2.2.2, rfl, hc.out.2.2.2.1, rfl, SlLeft.refl h0.out⟩
  case round =>
    obtain ⟨j, rfl, hj, hl⟩ := hrel
    have hroom := h0.out.room
    obtain ⟨i, hi⟩ : ∃ i, i = c0 + j := ⟨_, rfl⟩
    rw [← hi] at hj ⊢
    have kI : (k : Int) ≤ 1024 := by omega
    have HI := Lib.hid hi
    have HL := Lib.hid hl
    obtain ⟨⟨F', hA, hF'⟩, hch⟩ := hl.left
    have ck : wr.cell? ⟨X, 2, none⟩ = some (.int .i64 (k : Int)) := by rw [hA.pr.cell]; rfl
    by_cases hlt : i < k
    · have iI : (i : Int) < k := by omega
      have HLT := Lib.hid hlt
      obtain ⟨Si, hSi⟩ : ∃ Si, Si = (writesS S (q0 + c0) (zs.take j)).1 := ⟨_, rfl⟩
      have hon := hl.on
      have hops := hl.ops
      rw [← hSi] at hA hon hops
      have hzl : zs.length = k - c0 := by rw [hc.out.2.2.1, List.length_replicate]
      have hjz : j < zs.length := by omega
      have hzj : zs[j] = [] := by
        have h1 := hc.out.2.2.1
        subst h1
        exact List.getElem_replicate _
      obtain ⟨qq, hqq⟩ : ∃ qq, qq = q0 + i := ⟨_, rfl⟩
      have hslk : sl * k ≤ 1 * k := Nat.mul_le_mul hc.out.1 (Nat.le_refl k)
      have hq0 := hc.out.2.1
      have hqq2 : a + sl * k + i = qq := by rw [hqq, hq0]
      obtain ⟨S2, hS2⟩ : ∃ S2, S2 = (writeS Si (qq : Int) []).1 := ⟨_, rfl⟩
      obtain ⟨cd, hcd⟩ : ∃ cd, cd = (writeS Si (qq : Int) []).2 := ⟨_, rfl⟩
      have HNX : Hid (writesS S (q0 + c0) (zs.take (j + 1)) = (S2, cd)) := Lib.hid (by
        rw [writesS_next hjz HL.out.ok, ← hSi, hzj, show q0 + c0 + j = qq by omega, hS2, hcd])
      have HWS : Hid (S2.ops = Si.ops + 1 ∧ ((cd = 10 ∧ S2.dead = true) ∨ (cd = 0 ∧ S2.dead = false))) := Lib.hid (by
        obtain ⟨_, h2, h3⟩ := writeS_is hon (a := qq) (by omega) (x := []) (by decide)
        rw [hS2, hcd]
        exact ⟨h2, h3⟩)
      have HOP : Hid (Si.ops = S.ops + j) := Lib.hid hops
      have AT := Lib.hid hA
      have c0' : ∀ m, (wr.drewN m).cell? ⟨X, 0, none⟩ = some (.pointer (some ⟨D, 0, none⟩)) := fun m => by rw [(hA.pr.drewN m).cell]; rfl
      have HSC : Hid (∀ W, Blk W X 51 (prV (.pointer (some ⟨D, 0, none⟩)) a k) → Calls Tryd.prog 42 #[.pointer (some ⟨X, 0, none⟩), .int .i64 (sl : Int), .int .i64 (i : Int)] W fun e W' => e = .returned (.int .i64 (qq : Int)) ∧ ∃ m, W' = W.drewN m) := Lib.hid fun W hW => by
        have h1 := slSector_any hW sl i hc.out.1 (by omega) (by omega) (by omega)
        rw [hqq2] at h1
        exact h1
      have C3 : Hid (∀ m, Calls Tryd.prog 18 #[.pointer (some ⟨D, 0, none⟩), .int .i64 (qq : Int), .slice none 0 0] (wr.drewN m) fun e V' => e = .returned (.int .i64 (cd : Int)) ∧ SlLeft DC wr V' X a k D S2 F') := Lib.hid fun m => by
        have h1 := AT.out.on (below_drewN (Below.refl _ wr) m)
        refine (DC.write h1.dk (qq : Int) (.slice none 0 0) [] (WalkArith.wf_i64 (by omega)) (Rd.nil _) (by decide) (by have := hc.out.2.2.2.2.1; omega) fun h => by cases h).mono ?_
        rintro e V' ⟨rfl, hl⟩
        rw [← hcd, hS2]
        exact ⟨rfl, SlLeft.below (below_drewN (Below.refl _ wr) m) (h1.left hl)⟩
      have HFF : Hid ((∀ j, F' j → F j ∨ w.heap.size ≤ j) ∧ Chg F w wr) := Lib.hid ⟨hF', hch⟩
      clear hl hroom hi hlt hj hA hF' hch hSi hon hops hzl hjz hzj hqq hslk hq0 hqq2 hS2 hcd
      go_wp2_with (fail)
      clear ck
      refine wp_quiet_tail 8 (by kernel_rfl) (by kernel_rfl) (by kernel_rfl) (by kernel_rfl) (by kernel_rfl) (by kernel_rfl) (by kernel_rfl) (by kernel_rfl) ?_
      simp only [List.take_succ_cons, List.take_zero, List.drop_succ_cons, List.drop_zero]
      repeat (go_big_quiet_step ((go_at_call 42; exact Calls.quiet_of (HSC.out _ (AT.out.pr.drewN _)))))
      refine wpQuiet_nil ?_
      intro wq hwq
      obtain ⟨nq, rfl⟩ := hwq
      clear c0'
      go_wp2_with (fail)
      refine (C3.out nq).mono ?_
      rintro e w4 ⟨rfl, l4⟩
      have L4 := Lib.hid (SlLeft.trans HFF.out.2 HFF.out.1 l4)
      clear l4
      obtain ⟨hso, hcs⟩ := HWS.out
      rcases hcs with ⟨rfl, hd⟩ | ⟨rfl, hd⟩
      · have HB : Hid (WipBad DC w X a k D S F (q0 + c0) zs (.int .i64 10) w4) := Lib.hid (by
          have h1 : (writesS S (q0 + c0) (zs.take (j + 1))).2 ≠ 0 := by rw [HNX.out]; exact (show (10 : Nat) ≠ 0 by decide)
          have h2 := writesS_fail h1
          rw [HNX.out] at h2
          exact ⟨by rw [h2]; rfl, by rw [h2]; exact L4.out⟩)
        clear hso hd
        go_wp2_with (fail)
        exact HE.out _ _ _ _ _ _ _ _ _ _ _ _ _ _ _ _ _ _ _ _ _ _ _ _ HB
      · have HSO := Lib.hid hso
        have HD := Lib.hid hd
        clear hso hd
        go_wp2_with (fail)
        have hl := HLT.out
        have hi := HI.out
        refine ⟨⟨j + 1, by go_num, by omega, ?_, ?_, ?_, ?_⟩, by simp [intOf]; omega⟩
        · rw [HNX.out]
        · rw [HNX.out]
          exact HD.out
        · rw [HNX.out]
          show S2.ops = _
          rw [HSO.out, HOP.out]
          omega
        · rw [HNX.out]
          exact L4.out
    · have HB : Hid (WipBad DC w X a k D S F (q0 + c0) zs (.int .i64 0) wr) := Lib.hid (by
        have h1 : zs.take j = zs := List.take_of_length_le (by rw [hc.out.2.2.1, List.length_replicate]; omega)
        have h2 := hl.ok
        have h3 := hl.left
        rw [h1] at h2 h3
        exact ⟨by rw [h2]; rfl, h3⟩)
      clear hl hA hF' hch hi
      have hik : ¬ (i : Int) < k := by omega
      go_wp2_with (fail)
      exact HQ.out _ _ _ _ _ _ _ _ _ _ _ _ _ _ _ _ _ _ _ _ _ _ _ _ HB
end Go.Proofs.YtnaccngcpjkmbaaDoor

/- The developers' wipe and save, of a pair that is one. Premise: the disk's contracts. -/
namespace Go.Proofs.YtnaccngcpjkmbaaDoor
open Go.RowKit

set_option maxRecDepth 100000 in
set_option maxHeartbeats 2000000 in
theorem slWipe_any {DC : DiskW} {w : World} {X a k D : Nat} {S : DS} {F : Nat → Prop} (h : SlAt DC w X a k D S F) (sl c : Nat) (hsl : sl ≤ 1) (hc : c ≤ k) (hd : S.dead = false) (ho : S.ops < 950000) :
    Calls Tryd.prog 34 #[.pointer (some ⟨X, 0, none⟩), .int .i64 (sl : Int), .int .i64 (c : Int)] w fun e w' => e = .returned (.int .i64 ((writesS S (a + sl * k + c) (List.replicate (k - c) [])).2 : Int)) ∧ SlLeft DC w w' X a k D (writesS S (a + sl * k + c) (List.replicate (k - c) [])).1 F := by
  have HH := Lib.hid h
  have HC : Hid (sl ≤ 1 ∧ S.dead = false ∧ S.ops < 950000 ∧ c ≤ k) := Lib.hid ⟨hsl, hd, ho, hc⟩
  clear h hsl hc hd ho
  go_enter Tryd.func34, Tryd.ntmps34
  go_wp2_with (fail)
  refine wip_loop _ _ _ _ _ _ _ _ _ _ _ _ _ _ _ _ _ _ _ _ _ _ _ _ _ _ _ (a + sl * k) c sl (List.replicate (k - c) []) w HH (Lib.hid ⟨HC.out.1, rfl, rfl, HC.out.2.1, HC.out.2.2.1, HC.out.2.2.2⟩) (Lib.hid ?_) (Lib.hid ?_)
  · intro u6 u8 u10 u11 u12 u13 u14 u15 u16 u17 u18 u19 u20 u21 u22 u23 u24 u25 u26 u27 u28 u29 y w6 hl
    go_wp2_with (fail)
    go_ret
    exact ⟨by rw [← hl.out.ans]; rfl, hl.out.left⟩
  · intro u7 u8 u10 u11 u12 u13 u14 u15 u16 u17 u18 u19 u20 u21 u22 u23 u24 u25 u26 u27 u28 u29 y w6 hl
    go_ret
    exact ⟨by rw [← hl.out.ans]; rfl, hl.out.left⟩
theorem sync_cd (S : DS) : (syncS S).2 = 0 ∨ (syncS S).2 = 10 := by
  unfold syncS
  split
  · exact .inr rfl
  · dsimp only
    split
    · exact .inr rfl
    · exact .inl rfl
set_option maxRecDepth 100000 in
set_option maxHeartbeats 4000000 in
theorem slSave_any {DC : DiskW} {w : World} {X a k D : Nat} {S : DS} {F : Nat → Prop} (h : SlAt DC w X a k D S F) (hs : Salts w) (u : Value) (bs : List UInt8) (hr : Rd w u bs) (hu : 0 < bs.length → ∀ j, u.ownBlock = some j → ¬ F j) (hb : bs.length ≤ 104 * k) (hd : S.dead = false) (hm : mostS S a k < 2000000) (ho : S.ops < 200000) (wiped : Bool) :
    Calls Tryd.prog 20 #[.pointer (some ⟨X, 0, none⟩), u, .bool wiped] w fun e w' => ∃ n, e = .returned (.tuple #[n, .int .i64 ((saveS fp8 S a k bs wiped).2 : Int)]) ∧ ((saveS fp8 S a k bs wiped).2 = 0 → n = .int .u64 ((mostS S a k + 1 : Nat) : Int)) ∧ SlLeft DC w w' X a k D (saveS fp8 S a k bs wiped).1 F := by
  obtain ⟨Ab, cb, rfl, hcb, hcm, hA⟩ := hr.form
  obtain ⟨m, hmm⟩ : ∃ m, m = mostS S a k := ⟨_, rfl⟩
  rw [← hmm] at hm ⊢
  obtain ⟨sl, hsl⟩ : ∃ sl, sl = 1 - slotN (loadS fp8 S a k) := ⟨_, rfl⟩
  have hroom := h.room
  have hk1 := h.k1
  have hsl1 : sl ≤ 1 := by omega
  obtain ⟨r0, hr0⟩ : ∃ r0, r0 = writesS S (a + sl * k) (partsS fp8 bs (m + 1)) := ⟨_, rfl⟩
  have hcnt := cntS_le hb hk1
  have hslk : sl * k ≤ 1 * k := Nat.mul_le_mul hsl1 (Nat.le_refl k)
  obtain ⟨j0, _, _, hops0, hcd0⟩ := writesS_is (partsS fp8 bs (m + 1)) S (a + sl * k) hd (by rw [partsS_length]; omega) (fun x hx => by
    unfold partsS at hx
    obtain ⟨i, _, rfl⟩ := List.mem_map.1 hx
    exact partS_length fp8 fp8_length bs _ _)
  rw [← hr0, partsS_length] at hops0
  rw [← hr0] at hcd0
  have hsv : saveS fp8 S a k bs wiped = (let r := if r0.2 = 0 then writesS r0.1 (a + sl * k + cntS bs.length) (if wiped then List.replicate (k - cntS bs.length) [] else []) else r0; if r.2 = 0 then syncS r.1 else r) := by
    unfold saveS laidS
    rw [← hmm, ← hsl, Nat.mul_comm k sl, writesS_append, ← hr0, partsS_length]
  obtain ⟨S0, cd0⟩ := r0
  have hops0 : S0.ops ≤ S.ops + cntS bs.length := hops0
  have hcd0 : (cd0 = 0 ∧ S0.dead = false ∧ j0 = _) ∨ (cd0 = 10 ∧ S0.dead = true) := hcd0
  obtain ⟨r1, hr1⟩ : ∃ r1, r1 = writesS S0 (a + sl * k + cntS bs.length) (List.replicate (k - cntS bs.length) []) := ⟨_, rfl⟩
  have hsv : saveS fp8 S a k bs wiped = (let r := if cd0 = 0 then (if wiped then r1 else (S0, 0)) else (S0, cd0); if r.2 = 0 then syncS r.1 else r) := by
    rw [hsv, hr1]
    cases wiped <;> rfl
  have HSV := Lib.hid hsv
  have HH := Lib.hid h
  have HS := Lib.hid hs
  have HR := Lib.hid hr
  have HU := Lib.hid hu
  have HB : Hid (bs.length ≤ 104 * k ∧ sl ≤ 1 ∧ m + 1 < 256 ^ 8 ∧ S.dead = false ∧ S.ops < 200000 ∧ cntS bs.length ≤ k ∧ k ≤ 1024 ∧ bs.length ≤ 4294967296) := Lib.hid ⟨hb, hsl1, by omega, hd, ho, hcnt, by omega, by omega⟩
  have HCD : Hid ((cd0 = 0 ∧ S0.dead = false) ∨ cd0 = 10) := Lib.hid (by
    rcases hcd0 with ⟨h1, h2, _⟩ | ⟨h1, _⟩
    · exact .inl ⟨h1, h2⟩
    · exact .inr h1)
  have HLAY : Hid (∀ W, Below w.heap.size w W → ∀ x : Int, x = (sl : Int) → Calls Tryd.prog 33 #[.pointer (some ⟨X, 0, none⟩), .int .i64 x, .int .u64 ((m + 1 : Nat) : Int), .slice Ab bs.length cb] W fun e W' => e = .returned (.int .i64 (cd0 : Int)) ∧ SlLeft DC w W' X a k D S0 F) := Lib.hid fun W hW x hx => by
    subst hx
    refine (slLay_any (h.on hW) (hs.below hW) sl (m + 1) _ bs (hr.below hW) hu hb hsl1 (by omega) hd (by omega)).mono ?_
    rintro e W' ⟨rfl, hl⟩
    rw [← hr0] at hl ⊢
    exact ⟨rfl, SlLeft.below hW hl⟩
  have HWIP : Hid (∀ W, SlLeft DC w W X a k D S0 F → S0.dead = false → ∀ x : Int, x = (sl : Int) → Calls Tryd.prog 34 #[.pointer (some ⟨X, 0, none⟩), .int .i64 x, .int .i64 (cntS bs.length : Int)] W fun e W' => e = .returned (.int .i64 (r1.2 : Int)) ∧ SlLeft DC w W' X a k D r1.1 F) := Lib.hid fun W hW hd0 x hx => by
    subst hx
    obtain ⟨⟨F', h1, h2⟩, h3⟩ := hW
    refine (slWipe_any h1 sl (cntS bs.length) hsl1 hcnt hd0 (by omega)).mono ?_
    rintro e W' ⟨rfl, hl⟩
    rw [← hr1] at hl ⊢
    exact ⟨rfl, SlLeft.trans h3 h2 hl⟩
  have HR1 : Hid (S0.dead = false → r1.1.ops ≤ 400000 ∧ (r1.2 = 0 ∨ r1.2 = 10)) := Lib.hid fun hd0 => by
    obtain ⟨_, _, _, h1, h2⟩ := writesS_is (List.replicate (k - cntS bs.length) []) S0 (a + sl * k + cntS bs.length) hd0 (by rw [List.length_replicate]; omega) (fun x hx => by rw [List.eq_of_mem_replicate hx]; decide)
    rw [← hr1, List.length_replicate] at h1
    rw [← hr1] at h2
    exact ⟨by omega, h2.elim (fun h => .inl h.1) fun h => .inr h.1⟩
  have HS0O : Hid (S0.ops ≤ 400000) := Lib.hid (by omega)
  have HSYN : Hid (∀ W S', SlLeft DC w W X a k D S' F → S'.ops ≤ 400000 → Calls Tryd.prog 36 #[.pointer (some ⟨D, 0, none⟩)] W fun e W' => e = .returned (.int .i64 ((syncS S').2 : Int)) ∧ SlLeft DC w W' X a k D (syncS S').1 F) := Lib.hid fun W S' hW hS' => by
    obtain ⟨⟨F', h1, h2⟩, h3⟩ := hW
    refine (DC.sync h1.dk (by omega)).mono ?_
    rintro e W' ⟨rfl, hl⟩
    exact ⟨rfl, SlLeft.trans h3 h2 (h1.left hl)⟩
  have HGR : Hid (∀ W, Below w.heap.size w W → Calls Tryd.prog 32 #[.pointer (some ⟨X, 0, none⟩)] W fun e W' => e = .returned (.int .u64 (m : Int)) ∧ Below w.heap.size w W') := Lib.hid fun W hW => by
    refine (slGreatest_any (h.on hW)).mono ?_
    rintro e W' ⟨rfl, hb⟩
    rw [hmm]
    exact ⟨rfl, hW.trans (hb.mono hW.size)⟩
  have ck : w.cell? ⟨X, 2, none⟩ = some (.int .i64 (k : Int)) := by rw [h.pr.cell]; rfl
  have kI : (k : Int) ≤ 1024 := by omega
  have e1 : IntKind.i64.wrap ((k : Int) * 104) = ((k * 104 : Nat) : Int) := by rw [IntWalk.i64_in _ (by omega)]; omega
  obtain ⟨k4, hk4⟩ : ∃ k4, k4 = k * 104 := ⟨_, rfl⟩
  rw [← hk4] at e1
  have g1 : decide ((k4 : Int) < (bs.length : Int)) = false := decide_eq_false (by omega)
  have g1' : decide (k4 < bs.length) = false := decide_eq_false (by omega)
  obtain ⟨n, hn⟩ : ∃ n, n = m + 1 := ⟨_, rfl⟩
  have e2 : IntKind.u64.wrap ((m : Int) + 1) = (n : Int) := by rw [IntWalk.u64_in _ (by omega)]; omega
  have g2 : decide ((4611686018427387904 : Int) ≤ (m : Int)) = false := decide_eq_false (by omega)
  have g2' : decide (4611686018427387904 ≤ m) = false := decide_eq_false (by omega)
  rw [← hn] at HB HLAY ⊢
  have HSL := Lib.hid hsl
  have cks : ∀ m, (w.drewN m).cell? ⟨X, 2, none⟩ = some (.int .i64 (k : Int)) := fun m => ck
  clear hk4 hn
  clear h hs hr hu hb hd hm ho hcb hcm hA hmm hsl hroom hk1 hsl1 hr0 hcnt hslk hops0 hcd0 hsv hr1
  go_enter Tryd.func20, Tryd.ntmps20
  go_wp2_with (fail)
  refine (slIsNone_any HH.out.pr).mono ?_
  rintro e w1 ⟨rfl, rfl⟩
  go_wp2_with (fail)
  refine (HGR.out w1 (Below.refl _ _)).mono ?_
  rintro e w2 ⟨rfl, b2⟩
  have B2 := Lib.hid b2
  clear b2
  go_wp2_with (fail)
  refine (slNewest_any (HH.out.on B2.out) (HS.out.below B2.out)).mono ?_
  rintro e w3 ⟨ha, hb⟩
  have B3 := Lib.hid (B2.out.trans (hb.mono B2.out.size))
  obtain ⟨C, hC⟩ : ∃ C, w3.heap.size = C := ⟨_, rfl⟩
  have HC := Lib.hid hC
  clear hb hC g1 g1' g2 g2' e1 e2 ck cks
  cases hr : loadS fp8 S a k
  case' none =>
    have HX : Hid ((0 : Int) = (sl : Int)) := Lib.hid (by
      have h1 := HSL.out
      rw [hr] at h1
      have h1 : sl = 1 - 1 := h1
      omega)
    rw [hr] at ha
    obtain rfl := ha
    clear hr
    go_wp2_with (first
      | (with_reducible refine here_alloc ?_
         refine wpList_alloc_w rfl 62 rfl (wholeV 0 0 (.slice none 0 0)) whole_zero C HC.out ?_
         intro w4 k4 b4 z4
         have K4 := Lib.hid k4
         have B4 := Lib.hid b4
         clear k4 b4 z4)
      | (with_reducible refine here_store ?_
         refine wpList_store_blk rfl 62 _ _ rfl C 62 _ K4.out (wholeV 0 0 (.slice none 0 0)) rfl rfl rfl whole_info (wholeV_one rfl) ?_
         intro w5 k5 s5
         have B5 := Lib.hid (B4.out.trans s5.below)
         clear k5 s5))
    have E5 : Hid (Below w1.heap.size w1 w5) := Lib.hid (B3.out.trans (B5.out.mono (by rw [← HC.out]; exact B3.out.size)))
    refine (HLAY.out w5 E5.out _ HX.out).mono ?_
  case' some r =>
    obtain ⟨b, nn, sw⟩ := r
    have hsw : sw = 0 ∨ sw = 1 := by
      have h1 := slotN_01 (fp := fp8) (S := S) (a := a) (k := k)
      rw [hr] at h1
      exact h1
    have HX : Hid (sl = 1 - sw) := Lib.hid (by
      have h1 := HSL.out
      rw [hr] at h1
      exact h1)
    rw [hr] at ha
    obtain ⟨ub, rfl, h3, h4⟩ := ha
    have R2 := Lib.hid h3
    have e5 : IntKind.i64.wrap (1 - (sw : Int)) = (sl : Int) := by
      rw [IntWalk.i64_in _ (by omega), HX.out]
      omega
    have HSW := Lib.hid hsw
    clear hr h3 h4 hsw
    go_upto_region 12 with (first
      | (with_reducible refine here_alloc ?_
         refine wpList_alloc_w rfl 62 rfl (wholeV 0 0 (.slice none 0 0)) whole_zero C HC.out ?_
         intro w4 k4 b4 z4
         have K4 := Lib.hid k4
         have B4 := Lib.hid b4
         clear k4 b4 z4)
      | (with_reducible refine here_store ?_
         refine wpList_store_blk rfl 62 _ _ rfl C 62 _ K4.out (wholeV sw nn ub) rfl rfl rfl whole_info (wholeV_one (rd_slice R2.out)) ?_
         intro w5 k5 s5
         have K5 := Lib.hid k5
         have B5 := Lib.hid (B4.out.trans s5.below)
         clear k5 s5))
    have E5 : Hid (Below w1.heap.size w1 w5) := Lib.hid (B3.out.trans (B5.out.mono (by rw [← HC.out]; exact B3.out.size)))
    have c5 : w5.cell? ⟨C, 0, none⟩ = some (.int .i64 (sw : Int)) := by rw [K5.out.cell]; rfl
    go_wp2_with (fail)
    clear e5 c5
    refine (HLAY.out w5 E5.out _ rfl).mono ?_
  all_goals
    rintro e w6 ⟨rfl, l6⟩
    have L6 := Lib.hid l6
    clear l6
    rcases HCD.out with ⟨rfl, hd0⟩ | rfl
    · have HD0 := Lib.hid hd0
      clear hd0
      cases wiped with
      | false =>
        have HE1 : Hid (saveS fp8 S a k bs false = syncS S0) := Lib.hid (by rw [HSV.out]; rfl)
        obtain ⟨Fx, hx, _⟩ := L6.out.at'
        have cx : w6.cell? ⟨X, 0, none⟩ = some (.pointer (some ⟨D, 0, none⟩)) := by rw [hx.pr.cell]; rfl
        clear hx
        obtain ⟨cd1, hcd1⟩ : ∃ c, c = (syncS S0).2 := ⟨_, rfl⟩
        have hsy := HSYN.out w6 S0 L6.out HS0O.out
        rw [← hcd1] at hsy
        have h01 : cd1 = 0 ∨ cd1 = 10 := hcd1 ▸ sync_cd S0
        have HSY := Lib.hid hsy
        have H01 := Lib.hid h01
        have HCD1 := Lib.hid hcd1
        clear hsy h01 hcd1
        go_wp2_with (fail)
        refine HSY.out.mono ?_
        rintro e w8 ⟨rfl, l8⟩
        have L8 := Lib.hid l8
        clear l8
        rcases H01.out with rfl | rfl
        · go_wp2_with (fail)
          go_ret2
          exact ⟨.int .u64 (n : Int), by rw [HE1.out, ← HCD1.out]; rfl, fun _ => rfl, by rw [HE1.out]; exact L8.out⟩
        · go_wp2_with (fail)
          go_ret2
          refine ⟨.int .u64 0, by rw [HE1.out, ← HCD1.out]; rfl, fun h => ?_, by rw [HE1.out]; exact L8.out⟩
          rw [HE1.out, ← HCD1.out] at h
          cases h
      | true =>
        have h1 := HR1.out HD0.out
        obtain ⟨S1, c1⟩ := r1
        have HS1O : Hid (S1.ops ≤ 400000) := Lib.hid h1.1
        have hc1 : c1 = 0 ∨ c1 = 10 := h1.2
        have HC1 := Lib.hid hc1
        have HPA : Hid (∀ W, Calls Tryd.prog 35 #[.int .i64 (bs.length : Int)] W fun e W' => e = .returned (.int .i64 (cntS bs.length : Int)) ∧ W' = W) := Lib.hid fun W => slParts_any bs.length HB.out.2.2.2.2.2.2.2 W
        clear h1 hc1
        go_wp2_with (fail)
        refine (HPA.out w6).mono ?_
        rintro e w6' ⟨rfl, rfl⟩
        go_wp2_with (fail)
        refine (HWIP.out w6' L6.out HD0.out _ ?_).mono ?_
        · first | exact HX.out | rfl
        rintro e w7 ⟨rfl, l7⟩
        have L7 := Lib.hid l7
        clear l7
        rcases HC1.out with rfl | rfl
        · have HE1 : Hid (saveS fp8 S a k bs true = syncS S1) := Lib.hid (by rw [HSV.out]; rfl)
          obtain ⟨Fx, hx, _⟩ := L7.out.at'
          have cx : w7.cell? ⟨X, 0, none⟩ = some (.pointer (some ⟨D, 0, none⟩)) := by rw [hx.pr.cell]; rfl
          clear hx
          obtain ⟨cd1, hcd1⟩ : ∃ c, c = (syncS S1).2 := ⟨_, rfl⟩
          have hsy := HSYN.out w7 S1 L7.out HS1O.out
          rw [← hcd1] at hsy
          have h01 : cd1 = 0 ∨ cd1 = 10 := hcd1 ▸ sync_cd S1
          have HSY := Lib.hid hsy
          have H01 := Lib.hid h01
          have HCD1 := Lib.hid hcd1
          clear hsy h01 hcd1
          go_wp2_with (fail)
          refine HSY.out.mono ?_
          rintro e w8 ⟨rfl, l8⟩
          have L8 := Lib.hid l8
          clear l8
          rcases H01.out with rfl | rfl
          · go_wp2_with (fail)
            go_ret2
            exact ⟨.int .u64 (n : Int), by rw [HE1.out, ← HCD1.out]; rfl, fun _ => rfl, by rw [HE1.out]; exact L8.out⟩
          · go_wp2_with (fail)
            go_ret2
            refine ⟨.int .u64 0, by rw [HE1.out, ← HCD1.out]; rfl, fun h => ?_, by rw [HE1.out]; exact L8.out⟩
            rw [HE1.out, ← HCD1.out] at h
            cases h
        · have HE1 : Hid (saveS fp8 S a k bs true = (S1, 10)) := Lib.hid (by rw [HSV.out]; rfl)
          go_wp2_with (fail)
          go_ret2
          refine ⟨.int .u64 0, by rw [HE1.out]; rfl, fun h => ?_, by rw [HE1.out]; exact L7.out⟩
          rw [HE1.out] at h
          cases h
    · have HE1 : Hid (saveS fp8 S a k bs wiped = (S0, 10)) := Lib.hid (by rw [HSV.out]; rfl)
      go_wp2_with (fail)
      go_ret2
      refine ⟨.int .u64 0, by rw [HE1.out]; rfl, fun h => ?_, by rw [HE1.out]; exact L6.out⟩
      rw [HE1.out] at h
      cases h
end Go.Proofs.YtnaccngcpjkmbaaDoor

/- The developers' Save, Wipe, Open: of a pair that is one, and of one that is none. Premise: the disk's contracts. -/
namespace Go.Proofs.YtnaccngcpjkmbaaDoor
open Go.RowKit

theorem save_any_cases {S : DS} {a k : Nat} {bs : List UInt8} {wiped : Bool} (hd : S.dead = false) (h1 : 1 ≤ k) (h2 : a + 2 * k ≤ 1024) (hb : bs.length ≤ 104 * k) (hm : mostS S a k < 256 ^ 8 - 1) (he : (saveS fp8 S a k bs wiped).2 = 0) :
    (saveS fp8 S a k bs wiped).1.dead = false ∧ (saveS fp8 S a k bs wiped).1.ops ≤ S.ops + k + 1 ∧ mostS (saveS fp8 S a k bs wiped).1 a k ≤ mostS S a k + 1 := by
  have hr := at_room fp8 S h2
  have hcnt := cntS_le hb h1
  have hlen := laidS_length (fp := fp8) (n := mostS S a k + 1) (wiped := wiped) hcnt
  obtain ⟨j, k1, k2, k3, k4⟩ := writesS_is (laidS fp8 bs (mostS S a k + 1) k wiped) S (a + k * (1 - slotN (loadS fp8 S a k))) hd (by omega) (laidS_short fp8_length)
  have hsv : (saveS fp8 S a k bs wiped).1.dead = false ∧ (saveS fp8 S a k bs wiped).1.ops ≤ S.ops + k + 1 ∧ (saveS fp8 S a k bs wiped).1.L = (writesL S.L (a + k * (1 - slotN (loadS fp8 S a k))) (laidS fp8 bs (mostS S a k + 1) k wiped)).map safeP := by
    unfold saveS at he ⊢
    generalize hg : writesS S (a + k * (1 - slotN (loadS fp8 S a k))) (laidS fp8 bs (mostS S a k + 1) k wiped) = r at k2 k3 k4 he
    dsimp only at he ⊢
    rcases k4 with ⟨k5, k6, k7⟩ | ⟨k5, k6⟩
    · rw [if_pos k5] at he ⊢
      rw [k7, List.take_of_length_le (Nat.le_refl _)] at k2
      unfold syncS at he ⊢
      rw [if_neg (by rw [k6]; decide)] at he ⊢
      dsimp only at he ⊢
      rcases burn_dead r.1 k6 with ⟨h3, h4⟩ | ⟨h3, h4⟩
      · rw [if_pos h3] at he
        cases he
      · rw [if_neg (by rw [h3]; decide)]
        refine ⟨h4, ?_, ?_⟩
        · show (burnS r.1).1.ops ≤ _
          rw [burnS_ops]
          omega
        · show ((burnS r.1).1.L).map safeP = _
          rw [burnS_L, k2]
    · rw [if_neg (by rw [k5]; decide)] at he
      rw [k5] at he
      cases he
  obtain ⟨h4, h5, h6⟩ := hsv
  refine ⟨h4, h5, ?_⟩
  generalize saveS fp8 S a k bs wiped = T at h4 h5 h6
  have hv := fun b i => view_safe S T.1 rfl (a + k * (1 - slotN (loadS fp8 S a k))) _ h6 b i
  refine most_le fun i x hi hx => ?_
  rw [hv] at hx
  split at hx
  · injection hx with hx
    rw [← hx]
    exact laid_some fp8_length (by omega)
  · have := most_ge hi hx
    omega
set_option maxRecDepth 100000 in
set_option maxHeartbeats 1000000 in
theorem slSaveX_any {DC : DiskW} {w : World} {X a k D : Nat} {S : DS} {F : Nat → Prop} (h : SlAt DC w X a k D S F) (hs : Salts w) (u : Value) (bs : List UInt8) (hr : Rd w u bs) (hu : 0 < bs.length → ∀ j, u.ownBlock = some j → ¬ F j) (hb : bs.length ≤ 104 * k) (hd : S.dead = false) (hm : mostS S a k < 1000000) (ho : S.ops < 200000) :
    Calls Tryd.prog 10 #[.pointer (some ⟨X, 0, none⟩), u] w fun e w' => ∃ n, e = .returned (.tuple #[n, .int .i64 ((saveS fp8 S a k bs false).2 : Int)]) ∧ ((saveS fp8 S a k bs false).2 = 0 → n = .int .u64 ((mostS S a k + 1 : Nat) : Int)) ∧ SlLeft DC w w' X a k D (saveS fp8 S a k bs false).1 F := by
  have HC := Lib.hid (slSave_any h hs u bs hr hu hb hd (by omega) ho false)
  obtain ⟨cd, hcd⟩ : ∃ cd, cd = (saveS fp8 S a k bs false).2 := ⟨_, rfl⟩
  obtain ⟨S', hS'⟩ : ∃ S', S' = (saveS fp8 S a k bs false).1 := ⟨_, rfl⟩
  obtain ⟨m, hmm⟩ : ∃ m, m = mostS S a k + 1 := ⟨_, rfl⟩
  rw [← hcd, ← hS', ← hmm] at HC ⊢
  clear h hs hr hu hb hd hm ho hcd hS' hmm
  go_enter Tryd.func10, Tryd.ntmps10
  go_wp2_with (fail)
  refine HC.out.mono ?_
  rintro e w1 ⟨n, rfl, hn, hl⟩
  have HN := Lib.hid hn
  have HL := Lib.hid hl
  clear hn hl
  go_wp2_with (fail)
  go_ret2
  exact ⟨n, rfl, HN.out, HL.out⟩
set_option maxRecDepth 100000 in
set_option maxHeartbeats 1000000 in
theorem slWipeX_any {DC : DiskW} {w : World} {X a k D : Nat} {S : DS} {F : Nat → Prop} (h : SlAt DC w X a k D S F) (hs : Salts w) (hF : ∀ j, F j → 0 < j) (u : Value) (bs : List UInt8) (hr : Rd w u bs) (hu : 0 < bs.length → ∀ j, u.ownBlock = some j → ¬ F j) (hb : bs.length ≤ 104 * k) (hd : S.dead = false) (hm : mostS S a k < 1000000) (ho : S.ops < 100000) (he : (saveS fp8 S a k bs true).2 = 0) :
    Calls Tryd.prog 15 #[.pointer (some ⟨X, 0, none⟩), u] w fun e w' => ∃ n, e = .returned (.tuple #[n, .int .i64 ((saveS fp8 (saveS fp8 S a k bs true).1 a k bs true).2 : Int)]) ∧ ((saveS fp8 (saveS fp8 S a k bs true).1 a k bs true).2 = 0 → n = .int .u64 ((mostS (saveS fp8 S a k bs true).1 a k + 1 : Nat) : Int)) ∧ SlLeft DC w w' X a k D (saveS fp8 (saveS fp8 S a k bs true).1 a k bs true).1 F := by
  have hsa := save_any_cases hd h.k1 h.room hb (by omega) he
  have HC := Lib.hid (slSave_any h hs u bs hr hu hb hd (by omega) (by omega) true)
  obtain ⟨cd, hcd⟩ : ∃ cd, cd = (saveS fp8 S a k bs true).2 := ⟨_, rfl⟩
  obtain ⟨S', hS'⟩ : ∃ S', S' = (saveS fp8 S a k bs true).1 := ⟨_, rfl⟩
  rw [← hcd, ← hS'] at HC
  rw [← hS'] at hsa ⊢
  have hcd0 : cd = 0 := hcd.trans he
  subst hcd0
  have hroom := h.room
  have HC2 : Hid (∀ W, SlLeft DC w W X a k D S' F → Calls Tryd.prog 20 #[.pointer (some ⟨X, 0, none⟩), u, .bool true] W fun e w' => ∃ n, e = .returned (.tuple #[n, .int .i64 ((saveS fp8 S' a k bs true).2 : Int)]) ∧ ((saveS fp8 S' a k bs true).2 = 0 → n = .int .u64 ((mostS S' a k + 1 : Nat) : Int)) ∧ SlLeft DC w w' X a k D (saveS fp8 S' a k bs true).1 F) := Lib.hid fun W hW => by
    obtain ⟨⟨F', h1, h2⟩, h3⟩ := hW
    have hs2 : Salts W := ⟨Nat.lt_of_lt_of_le hs.1 h3.size, fun i hi => (h3.cell (p := ⟨0, i, none⟩) hs.1 fun e => by have := hF 0 e; omega).trans (hs.2 i hi)⟩
    refine (slSave_any h1 hs2 u bs (chg_rd0 h3 hr hu) (fun hp j hj e => ?_) hb hsa.1 (by omega) (by omega) true).mono ?_
    · rcases h2 j e with h4 | h4
      · exact hu hp j hj h4
      · have := rd_elder hr j hj hp
        omega
    rintro e w' ⟨n, rfl, hn, hl⟩
    exact ⟨n, rfl, hn, SlLeft.trans h3 h2 hl⟩
  obtain ⟨cd2, hcd2⟩ : ∃ cd2, cd2 = (saveS fp8 S' a k bs true).2 := ⟨_, rfl⟩
  obtain ⟨S2, hS2⟩ : ∃ S2, S2 = (saveS fp8 S' a k bs true).1 := ⟨_, rfl⟩
  obtain ⟨m, hmm⟩ : ∃ m, m = mostS S' a k + 1 := ⟨_, rfl⟩
  rw [← hcd2, ← hS2, ← hmm] at HC2 ⊢
  clear h hs hr hu hb hd hm ho hcd hS' hmm hsa hcd2 hS2 hroom he hF
  go_enter Tryd.func15, Tryd.ntmps15
  go_wp2_with (fail)
  refine HC.out.mono ?_
  rintro e w1 ⟨n, rfl, _, hl⟩
  have HL := Lib.hid hl
  clear hl
  go_wp2_with (fail)
  refine (HC2.out w1 HL.out).mono ?_
  rintro e w2 ⟨n2, rfl, hn, hl⟩
  have HN := Lib.hid hn
  have HL2 := Lib.hid hl
  clear hn hl
  go_wp2_with (fail)
  go_ret2
  exact ⟨n2, rfl, HN.out, HL2.out⟩
set_option maxRecDepth 100000 in
set_option maxHeartbeats 1000000 in
theorem slOpen_any (D : Nat) (a k : Nat) (w : World) (h1 : 1 ≤ k) (h2 : a + 2 * k ≤ 1024) :
    Calls Tryd.prog 8 #[.pointer (some ⟨D, 0, none⟩), .int .i64 (a : Int), .int .i64 (k : Int)] w fun e w' => e = .returned (.tuple #[.pointer (some ⟨w.heap.size, 0, none⟩), .int .i64 0]) ∧ Blk w' w.heap.size 51 (prV (.pointer (some ⟨D, 0, none⟩)) a k) ∧ Below w.heap.size w w' := by
  have g1 : ¬ (k : Int) < 1 := by omega
  have aI : (a : Int) ≤ 1024 := by omega
  have g3 : ¬ (1024 - (a : Int)) / 2 < (k : Int) := by omega
  go_enter Tryd.func8, Tryd.ntmps8
  go_wp2_with (fail)
  go_ret2
  exact ⟨rfl, Blk.made w 51 (prV (.pointer (some ⟨D, 0, none⟩)) a k), (Below.refl _ _).alloc (Nat.le_refl _) _⟩
set_option maxRecDepth 100000 in
set_option maxHeartbeats 1000000 in
theorem slOpen_bad (D : Nat) (a k : Int) (w : World) (ha : -9223372036854775808 ≤ a ∧ a ≤ 9223372036854775807) (h : ¬ (1 ≤ k ∧ 0 ≤ a ∧ a + 2 * k ≤ 1024)) :
    Calls Tryd.prog 8 #[.pointer (some ⟨D, 0, none⟩), .int .i64 a, .int .i64 k] w fun e w' => e = .returned (.tuple #[.pointer none, .int .i64 1]) ∧ w' = w := by
  by_cases h1 : k < 1
  · clear h ha
    go_enter Tryd.func8, Tryd.ntmps8
    go_wp2_with (fail)
    go_ret2
    exact ⟨rfl, rfl⟩
  · by_cases h2 : a < 0
    · clear h ha
      go_enter Tryd.func8, Tryd.ntmps8
      go_wp2_with (fail)
      go_ret2
      exact ⟨rfl, rfl⟩
    · obtain ⟨x, hx⟩ : ∃ x, x = 1024 - a := ⟨_, rfl⟩
      have e1 : IntKind.i64.wrap (1024 - a) = x := by rw [hx]; exact IntWalk.i64_in _ (by omega)
      obtain ⟨y, hy⟩ : ∃ y, x.tdiv 2 = y := ⟨_, rfl⟩
      have g4 : y < k ∧ -9223372036854775808 ≤ y ∧ y ≤ 9223372036854775807 := by
        rw [← hy]
        by_cases h0 : 0 ≤ x
        · rw [Int.tdiv_eq_ediv_of_nonneg h0]
          omega
        · have h4 := Int.neg_tdiv (a := -x) (b := 2)
          rw [Int.neg_neg] at h4
          rw [h4, Int.tdiv_eq_ediv_of_nonneg (by omega)]
          omega
      have g3 : y < k := g4.1
      have e2 : wrap64 y = y := by
        have h5 := g4.2
        unfold wrap64
        omega
      clear h hx ha g4
      go_enter Tryd.func8, Tryd.ntmps8
      go_wp2_with (fail)
      go_ret2
      exact ⟨rfl, rfl⟩
set_option maxRecDepth 100000 in
set_option maxHeartbeats 1000000 in
theorem slOpen_nil (a k : Int) (w : World) :
    Calls Tryd.prog 8 #[.pointer none, .int .i64 a, .int .i64 k] w fun e w' => e = .returned (.tuple #[.pointer none, .int .i64 1]) ∧ w' = w := by
  go_enter Tryd.func8, Tryd.ntmps8
  go_wp2_with (fail)
  go_ret2
  exact ⟨rfl, rfl⟩
set_option maxRecDepth 100000 in
set_option maxHeartbeats 1000000 in
theorem slLoad_nil (w : World) : Calls Tryd.prog 13 #[.pointer none] w fun e w' => e = .returned (.tuple #[.slice none 0 0, .int .u64 0, .int .i64 6]) ∧ w' = w := by
  go_enter Tryd.func13, Tryd.ntmps13
  go_wp2_with (fail)
  refine (slIsNone_nil w).mono ?_
  rintro e w1 ⟨rfl, rfl⟩
  go_wp2_with (fail)
  go_returns
  exact ⟨rfl, rfl⟩
set_option maxRecDepth 100000 in
set_option maxHeartbeats 1000000 in
theorem slSave0_nil (u : Value) (b : Bool) (w : World) : Calls Tryd.prog 20 #[.pointer none, u, .bool b] w fun e w' => e = .returned (.tuple #[.int .u64 0, .int .i64 10]) ∧ w' = w := by
  go_enter Tryd.func20, Tryd.ntmps20
  go_wp2_with (fail)
  refine (slIsNone_nil w).mono ?_
  rintro e w1 ⟨rfl, rfl⟩
  go_wp2_with (fail)
  go_ret2
  exact ⟨rfl, rfl⟩
set_option maxRecDepth 100000 in
set_option maxHeartbeats 1000000 in
theorem slSave_nil (u : Value) (w : World) : Calls Tryd.prog 10 #[.pointer none, u] w fun e w' => e = .returned (.tuple #[.int .u64 0, .int .i64 10]) ∧ w' = w := by
  go_enter Tryd.func10, Tryd.ntmps10
  go_wp2_with (fail)
  refine (slSave0_nil u false w).mono ?_
  rintro e w1 ⟨rfl, rfl⟩
  go_wp2_with (fail)
  go_ret2
  exact ⟨rfl, rfl⟩
set_option maxRecDepth 100000 in
set_option maxHeartbeats 1000000 in
theorem slWipe_nil (u : Value) (w : World) : Calls Tryd.prog 15 #[.pointer none, u] w fun e w' => e = .returned (.tuple #[.int .u64 0, .int .i64 10]) ∧ w' = w := by
  go_enter Tryd.func15, Tryd.ntmps15
  go_wp2_with (fail)
  refine (slSave0_nil u true w).mono ?_
  rintro e w1 ⟨rfl, rfl⟩
  go_wp2_with (fail)
  go_ret2
  exact ⟨rfl, rfl⟩
end Go.Proofs.YtnaccngcpjkmbaaDoor
