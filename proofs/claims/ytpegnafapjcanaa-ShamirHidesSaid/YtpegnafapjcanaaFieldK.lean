/- The contracts of field's Build, Mul, Inv, Div and Eval of the landed code: of the tables that Build answers, of any tables, of none. Conditions: bytes; at most 1000 coefficients. -/
import Derived.Test.YtpegnafapjcanaaFieldG
import Derived.Test.YtpegnafapjcanaaFEval
import Derived.Deep.Cut
import Derived.Deep.RegionLaw
namespace Go.Proofs.Ytpegnafapjcanaa
open Go.RowKit

theorem dbl_all : ((List.range 256).all fun a => (a * 2 % 256) ^^^ (a / 128 * 27) == gmul a 2) = true := by kernel_rfl
theorem dbl {a : Nat} (ha : a < 256) : (a * 2 % 256) ^^^ (a / 128 * 27) = gmul a 2 := beq_iff_eq.1 (List.all_eq_true.1 dbl_all a (List.mem_range.2 ha))
set_option maxRecDepth 100000 in
set_option maxHeartbeats 2000000 in
theorem double_any (a : Nat) (w : World) (ha : a < 256) :
    Calls Try.prog 28 #[.int .u8 (a : Int)] w fun e w' => e = .returned (.int .u8 (gmul a 2 : Nat)) ∧ w' = w := by
  have aI : (a : Int) < 256 := by omega
  have HX : Hid (bits .xor .u8 ((a : Int) * 2 % 256) ((a : Int) / 128 * 27) = ((gmul a 2 : Nat) : Int)) := Lib.hid (by
    rw [← dbl ha, ← xorB_nat (a * 2 % 256) (a / 128 * 27) (Nat.mod_lt _ (by decide)) (by omega)]
    simp only [Int.natCast_emod, Int.natCast_mul, Int.natCast_ediv]
    rfl)
  go_enter Try.func28, Try.ntmps28
  go_wp2_with (fail)
  go_ret
  exact ⟨by rw [← HX.out]; rfl, rfl⟩
def tabS : Nat → Nat × List Nat
  | 0 => (1, List.replicate 512 0)
  | i + 1 => (gmul (tabS i).1 3, ((tabS i).2.set i (tabS i).1).set (256 + (tabS i).1) i)
theorem tabS_pow : ∀ i, (tabS i).1 = gpow 3 i
  | 0 => rfl
  | i + 1 => by show gmul (tabS i).1 3 = gmul (gpow 3 i) 3; rw [tabS_pow i]
theorem tabS_length : ∀ i, (tabS i).2.length = 512
  | 0 => List.length_replicate
  | i + 1 => by
    show (((tabS i).2.set i (tabS i).1).set (256 + (tabS i).1) i).length = 512
    rw [List.length_set, List.length_set, tabS_length i]
theorem tabS_end : (tabS 255).2.set 255 1 = tabN := by kernel_rfl
theorem tabS_first : (tabS 255).2[0]? = some 1 := by kernel_rfl
def intV (n : Nat) : Value := .int .u8 (n : Int)
/-- A variable of a type whose zero value is an array, or a struct. -/
theorem wpList_alloc_zero {P : Program} {ops : Array Oper} {rest : List Oper} {o : Oper} {a : Act} {w : World} {Q : Exit → Act → World → Prop} (hgd : o.guard = none) (t : TypeId) (ho : o.op = .alloc t) (cs : Array Value)
    (hz : (P.info? t).bind (·.zero) = some (.agg cs))
    (h : wpList P ops Q rest (a.put o.dst (.pointer (some ⟨w.heap.size, 0, none⟩))) (w.alloc (.cells cs t))) : wpList P ops Q (o :: rest) a w := by
  refine wpList_plain hgd fun K hK => ?_
  have hrun : (zeroValue t).run P w = .ok (.agg cs) w := by
    cases hi : P.info? t with
    | none => rw [hi] at hz; cases hz
    | some i =>
      rw [hi] at hz
      have hz : i.zero = some (.agg cs) := hz
      simp [zeroValue, typeInfo, hi, hz]
  unfold Oper.wp
  simp [execOp, ho, Instr.alloc, hrun, Result.andThen]
  exact hK _ _ h
def TabRel (B : Nat) (w : World) (p v : Value) (W : World) : Prop := ∃ i : Nat, v = .int .i64 (i : Int) ∧ i ≤ 255 ∧ p = .int .u8 ((tabS i).1 : Nat) ∧ Blk W B 59 ((tabS i).2.map intV) ∧ Below B w W ∧ W.heap.size = B + 1
theorem map_set_int (l : List Nat) (i n : Nat) : (l.map intV).set i (intV n) = (l.set i n).map intV := by rw [List.map_set]
set_option maxRecDepth 100000 in
set_option maxHeartbeats 2000000 in
theorem buildc : BuildC := by
  intro w
  obtain ⟨cs, hcs⟩ : ∃ cs : Array Value, cs = ((tabS 0).2.map intV).toArray := ⟨_, rfl⟩
  have HZ : Hid ((Try.prog.info? 59).bind (·.zero) = some (.agg cs)) := Lib.hid (by rw [hcs]; kernel_rfl)
  obtain ⟨W0, hW0⟩ : ∃ W : World, W = w.alloc (.cells cs 59) := ⟨_, rfl⟩
  have T0 : Hid (Blk W0 w.heap.size 59 ((tabS 0).2.map intV)) := Lib.hid (by rw [hW0, hcs]; exact Blk.made w _ _)
  have D0 : Hid (Below w.heap.size w W0) := Lib.hid (by rw [hW0]; exact (Below.refl _ _).alloc (Nat.le_refl _) _)
  have S0 : Hid (W0.heap.size = w.heap.size + 1) := Lib.hid (by rw [hW0]; simp)
  clear hcs
  go_enter Try.func20, Try.ntmps20
  go_wp2_with (refine wpList_alloc_zero rfl _ rfl _ HZ.out ?_)
  rw [← hW0]
  clear hW0 HZ
  go_loopw [2, 4] (fun p v wx => TabRel w.heap.size w p v wx) (fun _ v _ => 255 - (intOf v).toNat)
  case atStart => exact ⟨0, rfl, by omega, rfl, T0.out, D0.out, S0.out⟩
  case round =>
    obtain ⟨i, rfl, hi, rfl, hT, hb, hsz⟩ := hrel
    by_cases hlt : i < 255
    · have hI : (i : Int) < 255 := by omega
      obtain ⟨p, hp⟩ : ∃ p, p = (tabS i).1 := ⟨_, rfl⟩
      have hpl : p < 256 := by rw [hp, tabS_pow]; exact gpow_lt (by decide) i
      have pI : (p : Int) < 256 := by omega
      obtain ⟨cs, hcs⟩ : ∃ cs, cs = (tabS i).2 := ⟨_, rfl⟩
      have hln : cs.length = 512 := by rw [hcs, tabS_length]
      have HS1 : Hid ((tabS (i + 1)).1 = p ^^^ gmul p 2) := Lib.hid (by
        show gmul (tabS i).1 3 = _
        rw [← hp, show (3 : Nat) = 1 ^^^ 2 by decide, gmul_right, gmul_one hpl])
      have HS2 : Hid ((tabS (i + 1)).2 = (cs.set i p).set (256 + p) i) := Lib.hid (by
        show ((tabS i).2.set i (tabS i).1).set (256 + (tabS i).1) i = _
        rw [← hp, ← hcs])
      rw [← hp]
      rw [← hcs] at hT
      have hxr := xorB_nat p (gmul p 2) hpl (gmul_lt hpl (by decide))
      obtain ⟨q, hq⟩ : ∃ q, q = gmul p 2 := ⟨_, rfl⟩
      have HD : Hid (∀ W, Calls Try.prog 28 #[.int .u8 (p : Int)] W fun e W' => e = .returned (.int .u8 (q : Int)) ∧ W' = W) := Lib.hid fun W => by rw [hq]; exact double_any p W hpl
      rw [← hq] at HS1 hxr
      have f1 := hT.free i
      have c1 : ∃ u, wr.cell? ⟨w.heap.size, i, none⟩ = some u := ⟨_, by rw [hT.cell, List.getElem?_map, List.getElem?_eq_getElem (by omega)]; rfl⟩
      obtain ⟨u1, c1⟩ := c1
      have hT1 := hT.set i (intV p)
      obtain ⟨W1, hW1⟩ : ∃ W : World, W = wr.setCell ⟨w.heap.size, i, none⟩ (.int .u8 (p : Int)) := ⟨_, rfl⟩
      rw [map_set_int] at hT1
      have hT1 : Blk W1 w.heap.size 59 ((cs.set i p).map intV) := by rw [hW1]; exact hT1
      have f2 := hT1.free (256 + p)
      have c2 : ∃ u, W1.cell? ⟨w.heap.size, 256 + p, none⟩ = some u := ⟨_, by rw [hT1.cell, List.getElem?_map, List.getElem?_eq_getElem (by rw [List.length_set]; omega)]; rfl⟩
      obtain ⟨u2, c2⟩ := c2
      have hT2 := hT1.set (256 + p) (intV i)
      rw [map_set_int] at hT2
      obtain ⟨W2, hW2⟩ : ∃ W : World, W = W1.setCell ⟨w.heap.size, 256 + p, none⟩ (.int .u8 (i : Int)) := ⟨_, rfl⟩
      have HT2 : Hid (Blk W2 w.heap.size 59 (((cs.set i p).set (256 + p) i).map intV)) := Lib.hid (by rw [hW2]; exact hT2)
      have HB2 : Hid (Below w.heap.size w W2) := Lib.hid (by
        rw [hW2, hW1]
        exact (hb.setCell (p := ⟨w.heap.size, i, none⟩) (Nat.le_refl _) _).setCell (p := ⟨w.heap.size, 256 + p, none⟩) (Nat.le_refl _) _)
      have HZ2 : Hid (W2.heap.size = w.heap.size + 1) := Lib.hid (by rw [hW2, hW1]; simpa [World.setCell] using hsz)
      clear hT hT1 hT2 hb hsz hp hcs hq
      go_upto_region 7 with (fail)
      rw [← hW1]
      clear hW1 f1 c1
      go_upto_region 8 with (fail)
      rw [← hW2]
      clear hW2 f2 c2
      go_wp2_with (fail)
      refine (HD.out W2).mono ?_
      rintro e w2 ⟨rfl, rfl⟩
      go_wp2_with (fail)
      refine ⟨⟨i + 1, by go_num, by omega, by rw [HS1.out], by rw [HS2.out]; exact HT2.out, HB2.out, HZ2.out⟩, by simp [intOf]; omega⟩
    · obtain rfl : i = 255 := by omega
      have HB := Lib.hid hb
      have c1 : wr.cell? ⟨w.heap.size, 0, none⟩ = some (.int .u8 1) := by rw [hT.cell, List.getElem?_map, tabS_first]; rfl
      have f2 := hT.free 255
      have c2 : ∃ u, wr.cell? ⟨w.heap.size, 255, none⟩ = some u := ⟨_, by rw [hT.cell, List.getElem?_map, List.getElem?_eq_getElem (by rw [tabS_length]; omega)]; rfl⟩
      obtain ⟨u2, c2⟩ := c2
      have hT2 := hT.set 255 (intV 1)
      rw [map_set_int, tabS_end] at hT2
      obtain ⟨W1, hW1⟩ : ∃ W : World, W = wr.setCell ⟨w.heap.size, 255, none⟩ (.int .u8 1) := ⟨_, rfl⟩
      have HT2 : Hid (Blk W1 w.heap.size 59 (tabN.map intV)) := Lib.hid (by rw [hW1]; exact hT2)
      have HB2 : Hid (Below w.heap.size w W1) := Lib.hid (by
        rw [hW1]
        exact hb.setCell (p := ⟨w.heap.size, 255, none⟩) (Nat.le_refl _) _)
      obtain ⟨p, hp⟩ : ∃ p, p = (tabS 255).1 := ⟨_, rfl⟩
      rw [← hp]
      clear hT hT2 hb hsz hp
      go_upto_region 11 with (fail)
      rw [← hW1]
      go_wp2_with (fail)
      go_ret
      exact ⟨w.heap.size, rfl, HT2.out, HB2.out⟩
def tabB : List UInt8 := tabN.map UInt8.ofNat
theorem tabN_bytes : (tabN.all fun n => decide (n < 256)) = true := by kernel_rfl
theorem tabB_eq : tabB.map bv = tabN.map intV := by
  unfold tabB
  rw [List.map_map]
  refine List.map_congr_left fun n hn => ?_
  have h := of_decide_eq_true (List.all_eq_true.1 tabN_bytes n hn)
  show Value.int .u8 (((UInt8.ofNat n).toNat : Nat) : Int) = .int .u8 (n : Int)
  rw [UInt8.toNat_ofNat', Nat.mod_eq_of_lt h]
theorem tabB_length : tabB.length = 512 := by
  unfold tabB tabN
  rw [List.length_map, List.length_append, List.length_append, expL, expFrom_length, List.length_map, List.length_range]
  rfl
theorem Tab.bytes {W : World} {B : Nat} (h : Tab W B) : Blk W B 59 (tabB.map bv) := by
  rw [tabB_eq]
  exact h
theorem tabc {i n : Nat} (h : tabN[i]? = some n) (hn : n < 256) : tc tabB i = n := by
  unfold tc tabB
  rw [List.getD, List.getElem?_map, h]
  show (UInt8.ofNat n).toNat = n
  rw [UInt8.toNat_ofNat', Nat.mod_eq_of_lt hn]
theorem tabc_exp {i : Nat} (h : i < 255) : tc tabB i = gpow 3 i := by
  refine tabc ?_ (gpow_lt (by decide) i)
  have hl : expL.length = 255 := by rw [expL, expFrom_length]
  unfold tabN
  rw [List.append_assoc, List.getElem?_append_left (by omega), List.getElem?_eq_getElem (by omega), expL_get h]
theorem tabN_last : tabN[255]? = some 1 := by kernel_rfl
theorem tabc_last : tc tabB 255 = 1 := tabc tabN_last (by decide)
theorem tabc_log {a : Nat} (h : a < 256) : tc tabB (256 + a) = logN a := by
  refine tabc ?_ (by have := logN_lt h; omega)
  have hl : (expL ++ [1]).length = 256 := by rw [List.length_append, expL, expFrom_length]; rfl
  unfold tabN
  rw [List.getElem?_append_right (by omega), hl, Nat.add_sub_cancel_left, List.getElem?_map, List.getElem?_range h]
  rfl
theorem tmul_tab {a b : Nat} (ha : a < 256) (hb : b < 256) : tmul tabB a b = gmul a b := by
  unfold tmul
  split
  · rename_i h
    rcases h with rfl | rfl
    · exact (zero_gmul b).symm
    · exact (gmul_zero a).symm
  · rename_i h
    rw [tabc_log ha, tabc_log hb, tabc_exp (Nat.mod_lt _ (by decide)), gmul_log ha hb (by omega) (by omega)]
theorem tinv_tab {a : Nat} (ha : a < 256) : tinv tabB a = ginv a := by
  unfold tinv ginv
  split
  · rfl
  · rw [tabc_log ha]
    have hl := logN_lt ha
    by_cases h0 : logN a = 0
    · rw [h0]
      exact tabc_last
    · rw [tabc_exp (by omega), Nat.mod_eq_of_lt (by omega)]
theorem tev_tab {x : Nat} (hx : x < 256) : ∀ l, tev tabB x l = geval l x
  | [] => rfl
  | c :: l => by
    show tmul tabB (tev tabB x l) x ^^^ c.toNat = _
    rw [tev_tab hx l, tmul_tab (geval_lt l hx) hx, geval_cons c l hx, gmul_comm (geval_lt l hx) hx, Nat.xor_comm]
theorem mulc : MulC := fun B a b w hT ha hb => by
  have h := mulg tabB B a b w tabB_length hT.bytes ha hb
  rw [tmul_tab ha hb] at h
  exact h
theorem invc : InvC := fun B a w hT ha => by
  have h := invg tabB B a w tabB_length hT.bytes ha
  rw [tinv_tab ha] at h
  exact h
theorem divc : DivC := fun B a b w hT ha hb => by
  have h := divg tabB B a b w tabB_length hT.bytes ha hb
  rw [tinv_tab hb, tmul_tab ha (ginv_lt b)] at h
  exact h
theorem evalc : EvalC := fun B v l x w hT hr hl hx => by
  have h := evalg tabB B v l x w tabB_length hT.bytes hr hl hx
  rw [tev_tab hx] at h
  exact h
theorem mula : MulA := fun B a b w hT ha hb => by
  obtain ⟨bs, h1, h2⟩ := hT
  refine (mulg bs B a b w h1 h2 ha hb).mono ?_
  rintro e w' ⟨rfl, m, rfl⟩
  exact ⟨⟨_, rfl⟩, below_drewN (Below.refl _ _) m⟩
theorem inva : InvA := fun B a w hT ha => by
  obtain ⟨bs, h1, h2⟩ := hT
  refine (invg bs B a w h1 h2 ha).mono ?_
  rintro e w' ⟨rfl, m, rfl⟩
  exact ⟨⟨_, rfl⟩, below_drewN (Below.refl _ _) m⟩
theorem diva : DivA := fun B a b w hT ha hb => by
  obtain ⟨bs, h1, h2⟩ := hT
  refine (divg bs B a b w h1 h2 ha hb).mono ?_
  rintro e w' ⟨rfl, m, rfl⟩
  exact ⟨⟨_, rfl⟩, below_drewN (Below.refl _ _) m⟩
theorem evala : EvalA := fun B v l x w hT hr hl hx => by
  obtain ⟨bs, h1, h2⟩ := hT
  refine (evalg bs B v l x w h1 h2 hr hl hx).mono ?_
  rintro e w' ⟨rfl, m, rfl⟩
  exact ⟨⟨_, rfl⟩, below_drewN (Below.refl _ _) m⟩
set_option maxRecDepth 100000 in
set_option maxHeartbeats 2000000 in
theorem muln : MulN := fun a b w ha hb => by
  clear ha hb
  go_enter Try.func24, Try.ntmps24
  go_wp2_with (fail)
  go_ret
  exact ⟨rfl, Below.refl _ _⟩
set_option maxRecDepth 100000 in
set_option maxHeartbeats 2000000 in
theorem invn : InvN := fun a w ha => by
  clear ha
  go_enter Try.func30, Try.ntmps30
  go_wp2_with (fail)
  go_ret2
  exact ⟨rfl, Below.refl _ _⟩
set_option maxRecDepth 100000 in
set_option maxHeartbeats 2000000 in
theorem divn : DivN := fun a b w _ hb => by
  have HI := Lib.hid (invn b w hb)
  clear hb
  go_enter Try.func29, Try.ntmps29
  go_wp2_with (fail)
  refine HI.out.mono ?_
  rintro e w1 ⟨rfl, h1⟩
  have H1 := Lib.hid h1
  clear h1
  go_wp2_with (fail)
  go_ret2
  exact ⟨rfl, H1.out⟩
set_option maxRecDepth 100000 in
set_option maxHeartbeats 2000000 in
theorem evaln : EvalN := fun v l x w _ _ _ => by
  go_enter Try.func27, Try.ntmps27
  go_wp2_with (fail)
  go_ret
  exact ⟨rfl, Below.refl _ _⟩
end Go.Proofs.Ytpegnafapjcanaa
