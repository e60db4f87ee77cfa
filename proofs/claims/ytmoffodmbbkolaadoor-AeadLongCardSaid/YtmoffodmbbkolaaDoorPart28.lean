/- Part 28 of the words that the laws share: LRed, LRest, LNum, LTim. No condition of its own: each theorem says its own. -/
import Derived.Test.YtmoffodmbbkolaaDoorPart27
import Derived.Test.YtmoffodmbbkolaaDoorPart3
import Derived.Test.YtmoffodmbbkolaaDoorPart29
import Derived.Deep.Cut

/- The contract of poly's reduced: limbs of 26 bits, but for the second one, of the same number modulo 2^130 - 5. Conditions: five limbs, none above 2^60. -/
namespace Go.Proofs.YtmoffodmbbkolaaDoor
open Go.RowKit

theorem ex_w (x : World) : ∃ z, z = x := ⟨x, rfl⟩
def RedPost (w : World) (V : Nat) (e : Ending) (w' : World) : Prop := ∃ R : List Nat, e = .returned (.agg (R.map wq).toArray) ∧ RedP R ∧ lv R % p130 = V % p130 ∧ Below w.heap.size w w'
set_option maxRecDepth 100000 in
set_option maxHeartbeats 2000000 in
theorem reduced_any (ns : List Nat) (V : Nat) (w : World) (hp : HanP ns 0 0 V) :
    Calls Tryd.prog 51 #[.agg (ns.map wq).toArray] w (RedPost w V) := by
  have HI : Hid ((Tryd.prog.info? 80).map (·.size) = some 5) := Lib.hid num_info
  obtain ⟨W1, hW1⟩ : ∃ W : World, W = (w.alloc (.cells (ns.map wq).toArray 80)).alloc (.cells (List.replicate 5 (Value.int .u64 0)).toArray 80) := ⟨_, rfl⟩
  have D1 : Hid (Below w.heap.size w W1) := Lib.hid (by rw [hW1]; exact ((Below.refl _ _).alloc (Nat.le_refl _) _).alloc (by simp) _)
  have A1 : Hid (Blk W1 w.heap.size 80 (ns.map wq)) := Lib.hid (by rw [hW1]; exact (Blk.made w _ _).alloc _)
  have R1 : Hid (Blk W1 (w.heap.size + 1) 80 (List.replicate 5 (Value.int .u64 0))) := Lib.hid (by
    have h := Blk.made (w.alloc (.cells (ns.map wq).toArray 80)) 80 (List.replicate 5 (Value.int .u64 0))
    rw [World.size_alloc] at h
    rw [hW1]
    exact h)
  have HP := Lib.hid hp
  clear hp
  have HC : Hid (Calls Tryd.prog 52 #[.pointer (some ⟨w.heap.size, 0, none⟩)] W1 (HanPost W1 w.heap.size 80 V)) := Lib.hid (han_any w.heap.size V _ ns W1 A1.out HP.out)
  subst hW1
  go_enter Tryd.func51, Tryd.ntmps51
  go_wp2_with (first
               | refine Go.Great.wpList_boxTo rfl _ _ rfl _ rfl w.heap.size rfl ((ns.map wq).toArray) rfl ?_)
  refine (HC.out).mono ?_
  rintro e w2 ⟨c, out, rfl, hh, hb, hs⟩
  obtain ⟨a, ha⟩ : ∃ a, a = out.getD 0 0 := ⟨_, rfl⟩
  obtain ⟨b, hbb⟩ : ∃ b, b = out.getD 1 0 := ⟨_, rfl⟩
  have hr := red_of hh ha hbb
  have c0 := rq_cell hb (i := 0) (by rw [hh.1]; omega)
  have c1 := rq_cell hb (i := 1) (by rw [hh.1]; omega)
  rw [← ha] at c0
  rw [← hbb] at c1
  have f0 : w2.frozen? ⟨w.heap.size, 0, none⟩ = false := hb.free _
  have f1 : w2.frozen? ⟨w.heap.size, 1, none⟩ = false := hb.free _
  have al : a < 67108864 := by rw [ha]; exact hh.2.2.1 0 (by omega) (by omega)
  have bl : b < 67108864 := by rw [hbb]; exact hh.2.2.1 1 (by omega) (by omega)
  have cl := hh.2.2.2.2
  obtain ⟨g, hg⟩ : ∃ g, g = a + c * 5 := ⟨_, rfl⟩
  obtain ⟨d, hd⟩ : ∃ d, d = g / 67108864 := ⟨_, rfl⟩
  obtain ⟨m, hm⟩ : ∃ m, m = g % 67108864 := ⟨_, rfl⟩
  obtain ⟨x, hx⟩ : ∃ x, x = b + d := ⟨_, rfl⟩
  rw [← hg, ← hd, ← hm, ← hx] at hr
  have HR := Lib.hid hr
  have HA := and26 g (by omega)
  rw [← hm] at HA
  have gI : (a : Int) + (c : Int) * 5 = (g : Int) := by omega
  have dI : (g : Int) / 67108864 = (d : Int) := by omega
  have xI : (b : Int) + (d : Int) = (x : Int) := by omega
  have gl : (g : Int) ≤ 171865849703 := by omega
  have aI : (a : Int) ≤ 67108863 := by omega
  have bI : (b : Int) ≤ 67108863 := by omega
  have cI : (c : Int) ≤ 34359738368 := by omega
  have dl : (d : Int) ≤ 4096 := by omega
  have xl : (x : Int) ≤ 67112959 := by omega
  have HB := Lib.hid hb
  have HS := Lib.hid hs
  have hb4 := ((hb.set 0 (wq g)).set 1 (wq x)).set 0 (wq m)
  rw [← List.map_set, ← List.map_set, ← List.map_set] at hb4
  have e4 : ((out.set 0 g).set 1 x).set 0 m = (out.set 0 m).set 1 x := by
    rw [List.set_comm _ _ (show (1 : Nat) ≠ 0 by decide), List.set_set]
  rw [e4] at hb4
  have HB4 : Hid (Blk (((w2.setCell ⟨w.heap.size, 0, none⟩ (.int .u64 (g : Int))).setCell ⟨w.heap.size, 1, none⟩ (.int .u64 (x : Int))).setCell ⟨w.heap.size, 0, none⟩ (.int .u64 (m : Int))) w.heap.size 80 (((out.set 0 m).set 1 x).map wq)) := Lib.hid hb4
  have HS4 : Hid (Sole w2 (((w2.setCell ⟨w.heap.size, 0, none⟩ (.int .u64 (g : Int))).setCell ⟨w.heap.size, 1, none⟩ (.int .u64 (x : Int))).setCell ⟨w.heap.size, 0, none⟩ (.int .u64 (m : Int))) w.heap.size) := Lib.hid (((Sole.setCell _ _ _ _).trans (Sole.setCell _ _ _ _)).trans (Sole.setCell _ _ _ _))
  obtain ⟨R, hR⟩ : ∃ R, R = (out.set 0 m).set 1 x := ⟨_, rfl⟩
  rw [← hR] at HB4 HR
  have HLR : Hid ((R.map wq).length = 5) := by show _ = _; rw [List.length_map]; exact HR.out.1.1
  have R4 : Hid (Blk (((w2.setCell ⟨w.heap.size, 0, none⟩ (.int .u64 (g : Int))).setCell ⟨w.heap.size, 1, none⟩ (.int .u64 (x : Int))).setCell ⟨w.heap.size, 0, none⟩ (.int .u64 (m : Int))) (w.heap.size + 1) 80 (List.replicate 5 (Value.int .u64 0))) := Lib.hid (HS4.out.blk (HS.out.blk R1.out (by omega)) (by omega))
  have D4 : Hid (Below w.heap.size w (((w2.setCell ⟨w.heap.size, 0, none⟩ (.int .u64 (g : Int))).setCell ⟨w.heap.size, 1, none⟩ (.int .u64 (x : Int))).setCell ⟨w.heap.size, 0, none⟩ (.int .u64 (m : Int)))) := Lib.hid (D1.out.trans (HS.out.trans HS4.out).below)
  clear hb hs hh ha hbb al bl cl hg hd hm hx hr hb4 e4 hR HS4 HS R1 D1 A1 HC
  go_upto_region 5 with (fail)
  obtain ⟨W4, hW4⟩ := ex_w (((w2.setCell ⟨w.heap.size, 0, none⟩ (.int .u64 (g : Int))).setCell ⟨w.heap.size, 1, none⟩ (.int .u64 (x : Int))).setCell ⟨w.heap.size, 0, none⟩ (.int .u64 (m : Int)))
  rw [← hW4] at HB4 R4 D4 ⊢
  clear hW4 c0 c1 f0 f1 gI dI xI HA
  go_wp2_with (first
    | (refine wpList_load_blk rfl 80 (.tmp 1) rfl w.heap.size rfl 80 (R.map wq) _ HB4.out Tryd.underlying80 rfl (by rw [HLR.out]; exact HI.out) ?_)
    | (refine wpList_store_blk rfl 80 (.tmp 2) (.tmp 22) rfl (w.heap.size + 1) 80 _ R4.out (R.map wq) rfl rfl (by rw [HLR.out]; rfl) (by rw [HLR.out]; exact HI.out) (wq_one _) ?_; intro w9 hb9 hs9))
  refine bodyPost_ret (v := .agg (R.map wq).toArray) ?_ rfl ⟨R, rfl, HR.out.1, HR.out.2, D4.out.trans (hs9.below.mono (by omega))⟩
  exact results_blk (ty := 80) Tryd.results51 _ w9 (w.heap.size + 1) 80 (R.map wq) _ rfl hb9 Tryd.underlying80 rfl (by rw [HLR.out]; exact HI.out)
end Go.Proofs.YtmoffodmbbkolaaDoor

/- The contract of poly's rest: what is left of a number by 2^130 - 5. Conditions: limbs as reduced leaves them. -/
namespace Go.Proofs.YtmoffodmbbkolaaDoor
open Go.RowKit

theorem mix_set {zs ns : List Nat} {i : Nat} (hi : i < 5) (hz : zs.length = 5) (hn : ns.length = 5) : (zs.take i ++ ns.drop i).set i (zs.getD i 0) = zs.take (i + 1) ++ ns.drop (i + 1) := by
  rw [List.set_append_right _ _ (by rw [List.length_take, hz]; omega), List.length_take, hz, Nat.min_eq_left (by omega), Nat.sub_self, List.drop_eq_getElem_cons (by omega), List.set_cons_zero, List.take_succ_eq_append_getElem (by omega), List.append_assoc]
  have e : zs.getD i 0 = zs[i]'(by omega) := by rw [List.getD, List.getElem?_eq_getElem (by omega)]; rfl
  rw [e]
  rfl
theorem mix_at {zs ns : List Nat} {i : Nat} (hi : i < 5) (hz : zs.length = 5) : (zs.take i ++ ns.drop i).getD i 0 = ns.getD i 0 := by
  rw [List.getD, List.getElem?_append_right (by rw [List.length_take, hz]; omega), List.length_take, hz, Nat.min_eq_left (by omega), Nat.sub_self, List.getElem?_drop, Nat.add_zero]
  rfl
def RstRel (w : World) (B : Nat) (ns zs : List Nat) (T : TypeId) (v : Value) (W : World) : Prop := ∃ i : Nat, v = .int .i64 (i : Int) ∧ i ≤ 5 ∧ Blk W B T ((zs.take i ++ ns.drop i).map wq) ∧ Sole w W B
noncomputable def body_rst : Code := (((Tryd.f44.body.map loopsOf).getD [])[0]?).getD .skip
set_option maxRecDepth 100000 in
set_option maxHeartbeats 2000000 in
theorem rst_loop (c0 c2 c5 c6 c7 c8 c9 c10 c11 c12 c14 c15 c16 c17 c18 c19 c20 c21 c22 c23 c24 c25 c26 c27 c28 c29 c30 c31 : Value) (B C : Nat) (T : TypeId) (K : Int) (ns ls zs : List Nat) (w : World) (hne : C ≠ B) (hn : Hid (ns.length = 5)) (hl : Hid (ls.length = 5)) (hz : Hid (zs.length = 5))
    (hk : Hid (∀ q, q < 5 → Value.int .u64 (bits .xor .u64 ((ns.getD q 0 : Nat) : Int) (bits .and .u64 (bits .xor .u64 ((ns.getD q 0 : Nat) : Int) ((ls.getD q 0 : Nat) : Int)) K)) = wq (zs.getD q 0))) (h0 : Hid (Blk w B T (ns.map wq))) (h1 : Hid (Blk w C T (ls.map wq))) {Q : Exit → Act → World → Prop}
    (HQ : Hid (∀ (u5 u13 u14 u15 u16 u17 u18 u19 u20 u21 u22 u23 u24 u25 u26 u27 u28 u29 u30 : Value) (wx : World), Hid (Blk wx B T (zs.map wq)) → Hid (Sole w wx B) → Q (.exit 0) ⟨List.toArray (c0 :: (.pointer (some ⟨B, 0, none⟩)) :: c2 :: (.pointer (some ⟨C, 0, none⟩)) :: (.int .u64 K) :: u5 :: c6 :: c7 :: c8 :: c9 :: c10 :: c11 :: c12 :: u13 :: u14 :: u15 :: u16 :: u17 :: u18 :: u19 :: u20 :: u21 :: u22 :: u23 :: u24 :: u25 :: u26 :: u27 :: u28 :: u29 :: u30 :: c31 :: []), []⟩ wx)) :
    (Code.loop body_rst).wp Tryd.prog Q ⟨List.toArray (c0 :: (.pointer (some ⟨B, 0, none⟩)) :: c2 :: (.pointer (some ⟨C, 0, none⟩)) :: (.int .u64 K) :: c5 :: c6 :: c7 :: c8 :: c9 :: c10 :: c11 :: c12 :: (.int .i64 0) :: c14 :: c15 :: c16 :: c17 :: c18 :: c19 :: c20 :: c21 :: c22 :: c23 :: c24 :: c25 :: c26 :: c27 :: c28 :: c29 :: c30 :: c31 :: []), []⟩ w := by
  unfold body_rst
  conv => arg 2; arg 1; whnf
  go_loopw [13] (fun v wx => RstRel w B ns zs T v wx) (fun v _ => 5 - (intOf v).toNat)
  case atStart => exact ⟨0, rfl, by omega, by simpa using h0.out, Sole.refl _ _⟩
  case round =>
    obtain ⟨i, rfl, hi, hblk, so⟩ := hrel
    have HB := Lib.hid hblk
    have HL := Lib.hid so
    by_cases hlt : i < 5
    · have hI : (i : Int) < 5 := by omega
      have hlen : (zs.take i ++ ns.drop i).length = 5 := by rw [List.length_append, List.length_take, List.length_drop, hz.out, hn.out]; omega
      have HX := Lib.hid (hk.out i hlt)
      have HS := Lib.hid (mix_set (ns := ns) hlt hz.out hn.out)
      have ce := rq_cell hblk (i := i) (by rw [hlen]; exact hlt)
      rw [mix_at hlt hz.out] at ce
      have cx := rq_cell (so.blk h1.out hne) (i := i) (by rw [hl.out]; exact hlt)
      obtain ⟨e, he⟩ : ∃ e, e = ns.getD i 0 := ⟨_, rfl⟩
      obtain ⟨x, hx⟩ : ∃ x, x = ls.getD i 0 := ⟨_, rfl⟩
      obtain ⟨z, hzz⟩ : ∃ z, z = zs.getD i 0 := ⟨_, rfl⟩
      rw [← he] at ce HX
      rw [← hx] at cx HX
      rw [← hzz] at HX HS
      have f0 : wr.frozen? ⟨B, i, none⟩ = false := hblk.free _
      clear he hx hzz hblk so hi hlen
      go_wp2_with (fail)
      go_still_tail 14, (by kernel_rfl)
      change wpList _ _ _ _ _ wr.drew
      go_wp2_with (fail)
      go_roundw
      case rel =>
        have h := (HB.out.set i (wq z)).drew
        rw [← List.map_set, HS.out] at h
        rw [HX.out]
        exact ⟨i + 1, by go_num, by omega, h, sole_drew (HL.out.trans (Sole.setCell wr B i _))⟩
      case measure => simp [intOf]; omega
    · obtain rfl : i = 5 := by omega
      have HB2 : Hid (Blk wr B T (zs.map wq)) := Lib.hid (by
        have e : zs.take 5 ++ ns.drop 5 = zs := by
          rw [List.take_of_length_le (by rw [hz.out]; omega), List.drop_of_length_le (by rw [hn.out]; omega), List.append_nil]
        rw [← e]
        exact hblk)
      clear hblk so
      go_wp2_with (fail)
      exact HQ.out _ _ _ _ _ _ _ _ _ _ _ _ _ _ _ _ _ _ _ _ HB2 HL
theorem mask_none (a b : Nat) (ha : a < 18446744073709551616) (hb : b < 18446744073709551616) : Value.int .u64 (bits .xor .u64 (a : Int) (bits .and .u64 (bits .xor .u64 (a : Int) (b : Int)) 0)) = wq a := by
  have hx := Nat.xor_lt_two_pow (n := 64) ha hb
  rw [u64_xor_nat a b ha hb, show (0 : Int) = ((0 : Nat) : Int) from rfl, u64_and_nat _ 0 hx (by decide), u64_xor_nat a _ ha (by rw [Nat.and_zero]; decide), Nat.and_zero, Nat.xor_zero]
  rfl
theorem mask_all (a b : Nat) (ha : a < 18446744073709551616) (hb : b < 18446744073709551616) : Value.int .u64 (bits .xor .u64 (a : Int) (bits .and .u64 (bits .xor .u64 (a : Int) (b : Int)) 18446744073709551615)) = wq b := by
  have hx := Nat.xor_lt_two_pow (n := 64) ha hb
  have e : (a ^^^ b) &&& 18446744073709551615 = a ^^^ b := by
    have h := Nat.and_two_pow_sub_one_eq_mod (a ^^^ b) 64
    rw [Nat.mod_eq_of_lt hx] at h
    exact h
  rw [u64_xor_nat a b ha hb, show (18446744073709551615 : Int) = ((18446744073709551615 : Nat) : Int) from rfl, u64_and_nat _ _ hx (by decide), e, u64_xor_nat a _ ha hx, ← Nat.xor_assoc, Nat.xor_self, Nat.zero_xor]
  rfl
/-- What handOn tells of a number and 5. -/
def LessPost (w : World) (L : Nat) (T : TypeId) (R : List Nat) (e : Ending) (w' : World) : Prop := ∃ (x : Int) (out : List Nat), e = .returned (.int .u64 x) ∧ Blk w' L T (out.map wq) ∧ Sole w w' L ∧ out.length = 5 ∧ (∀ q, q < 5 → out.getD q 0 < 67108864) ∧ ((x = 0 ∧ lv R = lv R % p130) ∨ (x = 1 ∧ lv out = lv R % p130))
theorem less_any (L : Nat) (T : TypeId) (R : List Nat) (a : Nat) (w : World) (hr : RedP R) (ha : a = R.getD 0 0) (hb : Blk w L T ((R.set 0 (a + 5)).map wq)) :
    Calls Tryd.prog 52 #[.pointer (some ⟨L, 0, none⟩)] w (LessPost w L T R) := by
  have hp : HanP (R.set 0 (a + 5)) 0 0 (lv (R.set 0 (a + 5))) := han_zero (by rw [List.length_set]; exact hr.1) (fun q hq => by
    by_cases e : 0 = q
    · subst e
      rw [gs_self (by rw [hr.1]; omega), ha]
      have := hr.2.1 0 (by omega)
      omega
    · rw [gs_ne e]
      have := hr.2.1 q hq
      omega)
  refine (han_any L _ T _ w hb hp).mono ?_
  rintro e w' ⟨c, out, rfl, hh, h1, h2⟩
  refine ⟨(c : Int), out, rfl, h1, h2, hh.1, fun q hq => hh.2.2.1 q hq hq, ?_⟩
  rcases rest_of hr ha hh with ⟨rfl, h⟩ | ⟨rfl, h⟩
  · exact .inl ⟨rfl, h⟩
  · exact .inr ⟨rfl, h⟩
/-- Below the modulus; limbs that have little beyond 26 bits. -/
def RestPost (w : World) (N : Nat) (e : Ending) (w' : World) : Prop := ∃ R : List Nat, e = .returned (.agg (R.map wq).toArray) ∧ R.length = 5 ∧ (∀ q, q < 5 → R.getD q 0 < 67112960) ∧ lv R = N ∧ Below w.heap.size w w'
set_option maxRecDepth 100000 in
set_option maxHeartbeats 4000000 in
theorem rest_any (R : List Nat) (w : World) (hr : RedP R) :
    Calls Tryd.prog 44 #[.agg (R.map wq).toArray] w (RestPost w (lv R % p130)) := by
  have HI : Hid ((Tryd.prog.info? 80).map (·.size) = some 5) := Lib.hid num_info
  obtain ⟨W1, hW1⟩ : ∃ W : World, W = ((w.alloc (.cells (R.map wq).toArray 80)).alloc (.cells (List.replicate 5 (Value.int .u64 0)).toArray 80)).alloc (.cells (List.replicate 5 (Value.int .u64 0)).toArray 80) := ⟨_, rfl⟩
  have S1 : W1.heap.size = w.heap.size + 1 + 1 + 1 := by rw [hW1]; simp
  have D1 : Hid (Below w.heap.size w W1) := Lib.hid (by rw [hW1]; exact (((Below.refl _ _).alloc (Nat.le_refl _) _).alloc (by simp) _).alloc (by simp; omega) _)
  have A0 : Hid (Blk ((w.alloc (.cells (R.map wq).toArray 80)).alloc (.cells (List.replicate 5 (Value.int .u64 0)).toArray 80)) w.heap.size 80 (R.map wq)) := Lib.hid ((Blk.made w _ _).alloc _)
  have A1 : Hid (Blk W1 w.heap.size 80 (R.map wq)) := Lib.hid (by rw [hW1]; exact ((Blk.made w _ _).alloc _).alloc _)
  have R1 : Hid (Blk W1 (w.heap.size + 1) 80 (List.replicate 5 (Value.int .u64 0))) := Lib.hid (by
    have h := (Blk.made (w.alloc (.cells (R.map wq).toArray 80)) 80 (List.replicate 5 (Value.int .u64 0))).alloc (.cells (List.replicate 5 (Value.int .u64 0)).toArray 80)
    rw [World.size_alloc] at h
    rw [hW1]
    exact h)
  have L1 : Hid (Blk W1 (w.heap.size + 1 + 1) 80 (List.replicate 5 (Value.int .u64 0))) := Lib.hid (by
    have h := Blk.made ((w.alloc (.cells (R.map wq).toArray 80)).alloc (.cells (List.replicate 5 (Value.int .u64 0)).toArray 80)) 80 (List.replicate 5 (Value.int .u64 0))
    rw [World.size_alloc, World.size_alloc] at h
    rw [hW1]
    exact h)
  have HR := Lib.hid hr
  have HLR : Hid ((R.map wq).length = 5) := by show _ = _; rw [List.length_map]; exact hr.1
  have HS1 := Lib.hid S1
  clear hr S1
  subst hW1
  go_enter Tryd.func44, Tryd.ntmps44
  go_wp2_with (first
               | refine Go.Great.wpList_boxTo rfl _ _ rfl _ rfl w.heap.size rfl ((R.map wq).toArray) rfl ?_
               | (refine wpList_load_blk rfl 80 (.tmp 1) rfl w.heap.size rfl 80 (R.map wq) _ A0.out Tryd.underlying80 rfl (by rw [HLR.out]; exact HI.out) ?_)
               | (refine wpList_store_blk rfl 80 (.tmp 3) (.tmp 6) rfl (w.heap.size + 1 + 1) 80 _ L1.out (R.map wq) rfl rfl (by rw [HLR.out]; rfl) (by rw [HLR.out]; exact HI.out) (wq_one _) ?_
                  intro w2 hb2 hs2
                  obtain ⟨a, ha⟩ : ∃ a, a = R.getD 0 0 := ⟨_, rfl⟩
                  have c0 := rq_cell hb2 (i := 0) (by rw [HR.out.1]; omega)
                  rw [← ha] at c0
                  have f0 : w2.frozen? ⟨w.heap.size + 1 + 1, 0, none⟩ = false := hb2.free _
                  have aI : (a : Int) ≤ 67112959 := by have := HR.out.2.1 0 (by omega); rw [← ha] at this; omega
                  have HA := Lib.hid ha
                  have HB2 := Lib.hid hb2
                  have HS2 := Lib.hid hs2
                  clear ha hb2 hs2 A0 L1))
  have hb3 := HB2.out.set 0 (wq (a + 5))
  rw [← List.map_set] at hb3
  have e5 : wq (a + 5) = Value.int .u64 ((a : Int) + 5) := congrArg (Value.int .u64) (by omega)
  rw [e5] at hb3
  refine (less_any (w.heap.size + 1 + 1) 80 R a _ HR.out HA.out hb3).mono ?_
  rintro e w3 ⟨x, out, rfl, hb, hs, hl, hlt, hv⟩
  have so := HS2.out.trans ((Sole.setCell _ _ _ _).trans hs)
  have HB3 := Lib.hid hb
  have A3 := Lib.hid (so.blk A1.out (by omega))
  have R3 := Lib.hid (so.blk R1.out (by omega))
  have D3 : Hid (Below w.heap.size w w3) := Lib.hid (D1.out.trans (so.below.mono (by omega)))
  have HO : Hid (out.length = 5 ∧ ∀ q, q < 5 → out.getD q 0 < 67108864) := Lib.hid ⟨hl, hlt⟩
  have HOL : Hid (out.length = 5) := Lib.hid hl
  have HRL : Hid (R.length = 5) := Lib.hid HR.out.1
  clear hb hs so hl hlt hb3 e5 A1 R1 D1 HS1 HB2 HS2 HA c0 f0 aI
  rcases hv with ⟨rfl, hv⟩ | ⟨rfl, hv⟩
  · have HV := Lib.hid hv
    have LZ : Hid ((R).length = 5) := Lib.hid (HR.out.1)
    have BZ : Hid (∀ q, q < 5 → (R).getD q 0 < 67112960) := Lib.hid (HR.out.2.1)
    have VZ : Hid (lv (R) = lv R % p130) := Lib.hid (HV.out)
    have HLZ : Hid (((R).map wq).length = 5) := by show _ = _; rw [List.length_map]; exact LZ.out
    have HK : Hid (∀ q, q < 5 → Value.int .u64 (bits .xor .u64 ((R.getD q 0 : Nat) : Int) (bits .and .u64 (bits .xor .u64 ((R.getD q 0 : Nat) : Int) ((out.getD q 0 : Nat) : Int)) 0)) = wq ((R).getD q 0)) := Lib.hid fun q hq => mask_none _ _ (by have := HR.out.2.1 q hq; omega) (by have := HO.out.2 q hq; omega)
    clear hv
    go_wp2_with (fail)
    refine rst_loop _ _ _ _ _ _ _ _ _ _ _ _ _ _ _ _ _ _ _ _ _ _ _ _ _ _ _ _ w.heap.size (w.heap.size + 1 + 1) 80 0 R out (R) _ (by omega) HRL HOL LZ HK A3 HB3 (Lib.hid ?_)
    intro u5 u13 u14 u15 u16 u17 u18 u19 u20 u21 u22 u23 u24 u25 u26 u27 u28 u29 u30 w5 hb5 hs5
    have R5 := Lib.hid (hs5.out.blk R3.out (by omega))
    have D5 : Hid (Below w.heap.size w w5) := Lib.hid (D3.out.trans hs5.out.below)
    clear hs5 A3 HB3 R3 D3
    go_wp2_with (first
      | (refine wpList_load_blk rfl 80 (.tmp 1) rfl w.heap.size rfl 80 (R.map wq) _ hb5.out Tryd.underlying80 rfl (by rw [HLZ.out]; exact HI.out) ?_)
      | (refine wpList_store_blk rfl 80 (.tmp 2) (.tmp 31) rfl (w.heap.size + 1) 80 _ R5.out (R.map wq) rfl rfl (by rw [HLZ.out]; rfl) (by rw [HLZ.out]; exact HI.out) (wq_one _) ?_; intro w9 hb9 hs9))
    refine bodyPost_ret (v := .agg (R.map wq).toArray) ?_ rfl ⟨R, rfl, LZ.out, BZ.out, VZ.out, D5.out.trans (hs9.below.mono (by omega))⟩
    exact results_blk (ty := 80) Tryd.results44 _ w9 (w.heap.size + 1) 80 (R.map wq) _ rfl hb9 Tryd.underlying80 rfl (by rw [HLZ.out]; exact HI.out)
  · have HV := Lib.hid hv
    have LZ : Hid ((out).length = 5) := Lib.hid (HO.out.1)
    have BZ : Hid (∀ q, q < 5 → (out).getD q 0 < 67112960) := Lib.hid (fun q hq => by have := HO.out.2 q hq; omega)
    have VZ : Hid (lv (out) = lv R % p130) := Lib.hid (HV.out)
    have HLZ : Hid (((out).map wq).length = 5) := by show _ = _; rw [List.length_map]; exact LZ.out
    have HK : Hid (∀ q, q < 5 → Value.int .u64 (bits .xor .u64 ((R.getD q 0 : Nat) : Int) (bits .and .u64 (bits .xor .u64 ((R.getD q 0 : Nat) : Int) ((out.getD q 0 : Nat) : Int)) 18446744073709551615)) = wq ((out).getD q 0)) := Lib.hid fun q hq => mask_all _ _ (by have := HR.out.2.1 q hq; omega) (by have := HO.out.2 q hq; omega)
    clear hv
    go_wp2_with (fail)
    refine rst_loop _ _ _ _ _ _ _ _ _ _ _ _ _ _ _ _ _ _ _ _ _ _ _ _ _ _ _ _ w.heap.size (w.heap.size + 1 + 1) 80 18446744073709551615 R out (out) _ (by omega) HRL HOL LZ HK A3 HB3 (Lib.hid ?_)
    intro u5 u13 u14 u15 u16 u17 u18 u19 u20 u21 u22 u23 u24 u25 u26 u27 u28 u29 u30 w5 hb5 hs5
    have R5 := Lib.hid (hs5.out.blk R3.out (by omega))
    have D5 : Hid (Below w.heap.size w w5) := Lib.hid (D3.out.trans hs5.out.below)
    clear hs5 A3 HB3 R3 D3
    go_wp2_with (first
      | (refine wpList_load_blk rfl 80 (.tmp 1) rfl w.heap.size rfl 80 (out.map wq) _ hb5.out Tryd.underlying80 rfl (by rw [HLZ.out]; exact HI.out) ?_)
      | (refine wpList_store_blk rfl 80 (.tmp 2) (.tmp 31) rfl (w.heap.size + 1) 80 _ R5.out (out.map wq) rfl rfl (by rw [HLZ.out]; rfl) (by rw [HLZ.out]; exact HI.out) (wq_one _) ?_; intro w9 hb9 hs9))
    refine bodyPost_ret (v := .agg (out.map wq).toArray) ?_ rfl ⟨out, rfl, LZ.out, BZ.out, VZ.out, D5.out.trans (hs9.below.mono (by omega))⟩
    exact results_blk (ty := 80) Tryd.results44 _ w9 (w.heap.size + 1) 80 (out.map wq) _ rfl hb9 Tryd.underlying80 rfl (by rw [HLZ.out]; exact HI.out)
end Go.Proofs.YtmoffodmbbkolaaDoor

/- The contract of poly's numberOf: the limbs of the number that 17 bytes are. Conditions: 17 bytes. -/
namespace Go.Proofs.YtmoffodmbbkolaaDoor
open Go.RowKit

def NofRel (w : World) (N : Nat) (zs : List Nat) (v : Value) (W : World) : Prop := ∃ i : Nat, v = .int .i64 (i : Int) ∧ i ≤ 5 ∧ Blk W N 80 ((zs.take i ++ (List.replicate 5 0).drop i).map wq) ∧ Sole w W N
noncomputable def body_nof : Code := (((Tryd.f49.body.map loopsOf).getD [])[0]?).getD .skip
set_option maxRecDepth 100000 in
set_option maxHeartbeats 2000000 in
theorem nof_loop (c1 c2 c4 c5 c6 c7 c9 c10 c11 c12 c13 c14 c15 c16 c17 c18 c19 c20 c21 c22 c23 c24 c25 c26 c27 c28 c29 c30 : Value) (B N : Nat) (T : TypeId) (xs : List UInt8) (zs : List Nat) (w : World) (hne : B ≠ N) (hl : Hid (xs.length = 17)) (hz : Hid (zs = lim (numB xs))) (hb : Hid (Blk w B T (xs.map bv))) (h0 : Hid (Blk w N 80 ((List.replicate 5 0).map wq))) {Q : Exit → Act → World → Prop}
    (HQ : Hid (∀ (u4 u5 u6 u7 u8 u9 u10 u11 u12 u13 u14 u15 u16 u17 u18 u19 u20 u21 u22 u23 u24 u25 u26 u27 u28 u29 : Value) (wx : World), Hid (Blk wx N 80 (zs.map wq)) → Hid (Sole w wx N) → Q (.exit 0) ⟨List.toArray ((.pointer (some ⟨B, 0, none⟩)) :: c1 :: c2 :: (.pointer (some ⟨N, 0, none⟩)) :: u4 :: u5 :: u6 :: u7 :: u8 :: u9 :: u10 :: u11 :: u12 :: u13 :: u14 :: u15 :: u16 :: u17 :: u18 :: u19 :: u20 :: u21 :: u22 :: u23 :: u24 :: u25 :: u26 :: u27 :: u28 :: u29 :: c30 :: []), []⟩ wx)) :
    (Code.loop body_nof).wp Tryd.prog Q ⟨List.toArray ((.pointer (some ⟨B, 0, none⟩)) :: c1 :: c2 :: (.pointer (some ⟨N, 0, none⟩)) :: c4 :: c5 :: c6 :: c7 :: (.int .i64 0) :: c9 :: c10 :: c11 :: c12 :: c13 :: c14 :: c15 :: c16 :: c17 :: c18 :: c19 :: c20 :: c21 :: c22 :: c23 :: c24 :: c25 :: c26 :: c27 :: c28 :: c29 :: c30 :: []), []⟩ w := by
  obtain ⟨i0, hi0, hz0, hz1, hz2⟩ := info_parts info_u8
  have HZL : Hid (zs.length = 5) := Lib.hid (by rw [hz.out, lim_length])
  unfold body_nof
  conv => arg 2; arg 1; whnf
  go_loopw [8] (fun v wx => NofRel w N zs v wx) (fun v _ => 5 - (intOf v).toNat)
  case atStart => exact ⟨0, rfl, by omega, by simpa using h0.out, Sole.refl _ _⟩
  case round =>
    obtain ⟨i, rfl, hi, hblk, so⟩ := hrel
    have HB := Lib.hid hblk
    have HL := Lib.hid so
    by_cases hlt : i < 5
    · have hI : (i : Int) < 5 := by omega
      obtain ⟨b, hbb⟩ : ∃ b, b = 26 * i := ⟨_, rfl⟩
      obtain ⟨l, hll⟩ : ∃ l, l = b / 8 := ⟨_, rfl⟩
      obtain ⟨s, hss⟩ : ∃ s, s = b % 8 := ⟨_, rfl⟩
      have l13 : l ≤ 13 := by omega
      obtain ⟨o, m, hm, ho, hsl⟩ := run_slice_arr_l' (P := Tryd.prog) 91 17 5 i0 Tryd.underlying91 hi0 hz1 B l (l : Int) rfl (by omega)
      have ho2 := ho (by omega)
      subst ho2
      have hr : Rd wr (.slice (some ⟨B, o, none⟩) m m) ((xs.drop o).take m) := (so.blk hb.out hne).rdo o m m (by rw [hl.out]; omega) (Nat.le_refl _) (by unfold maxLen; omega)
      have HR := Lib.hid hr
      have HLN : Hid (4 ≤ ((xs.drop o).take m).length) := Lib.hid (by rw [List.length_take, List.length_drop, hl.out]; omega)
      obtain ⟨q, hq⟩ : ∃ q, q = numB (((xs.drop o).take m).take 4) := ⟨_, rfl⟩
      have hq2 : q = numB ((xs.drop o).take 4) := by rw [hq, List.take_take, Nat.min_eq_left (by omega)]
      have ql : q < 4294967296 := by
        have h1 := numB_lt ((xs.drop o).take 4)
        rw [List.length_take, List.length_drop, hl.out, Nat.min_eq_left (by omega)] at h1
        rw [hq2]
        exact h1
      have HW : Hid (q / 2 ^ s % 67108864 = zs.getD i 0) := Lib.hid (by rw [hq2, hss, hbb, hz.out, lim_get _ hlt, ← lim_word xs hl.out hlt, hll, hbb])
      have HC : Hid (Calls Tryd.prog 26 #[.slice (some ⟨B, o, none⟩) m m, .int .i64 4] wr fun e w' => e = .returned (.tuple #[.int .u64 (q : Nat), .int .i64 0]) ∧ wr = w') := Lib.hid (by rw [hq]; exact get_yes _ _ 4 wr HR.out (by omega) (by omega) HLN.out)
      have HS := Lib.hid (mix_set (ns := List.replicate 5 0) hlt HZL.out (by simp))
      have f0 : wr.frozen? ⟨N, i, none⟩ = false := hblk.free _
      have hlen : (zs.take i ++ (List.replicate 5 0).drop i).length = 5 := by rw [List.length_append, List.length_take, List.length_drop, HZL.out]; simp; omega
      obtain ⟨u, hu⟩ : ∃ u, wr.cell? ⟨N, i, none⟩ = some u := ⟨_, rq_cell hblk (i := i) (by rw [hlen]; exact hlt)⟩
      have sI : (s : Int) ≤ 7 := by omega
      have qI : (q : Int) ≤ 4294967295 := by omega
      have bI : (b : Int) ≤ 104 := by omega
      have a1 : 26 * (i : Int) = (b : Int) := by omega
      have a2 : (b : Int) / 8 = (o : Int) := by omega
      have a3 : (b : Int) % 8 = (s : Int) := by omega
      have HM := Lib.hid hm
      clear hbb hll hss l13 hm ho hr hq hq2 ql hblk so hi hlen
      go_wp2_with (fail)
      refine (HC.out).mono ?_
      rintro e w1 ⟨rfl, rfl⟩
      go_wp2_with (fail)
      clear a1 a2 a3
      have e1 : Value.int .u64 (bits .and .u64 ((q : Int) / 2 ^ s) 67108863) = wq (zs.getD i 0) := by
        have h1 : (q : Int) / 2 ^ s = ((q / 2 ^ s : Nat) : Int) := by simp
        have h2 : q / 2 ^ s ≤ q := Nat.div_le_self _ _
        rw [h1, and26 _ (by omega), HW.out]
        rfl
      refine ⟨⟨i + 1, by go_num, by omega, ?_, HL.out.trans (Sole.setCell wr N i _)⟩, by simp [intOf]; omega⟩
      rw [e1]
      have h := HB.out.set i (wq (zs.getD i 0))
      rw [← List.map_set, HS.out] at h
      exact h
    · obtain rfl : i = 5 := by omega
      have HB2 : Hid (Blk wr N 80 (zs.map wq)) := Lib.hid (by
        have e : zs.take 5 ++ (List.replicate 5 0).drop 5 = zs := by
          rw [List.take_of_length_le (by rw [HZL.out]; omega), List.drop_of_length_le (by simp), List.append_nil]
        rw [← e]
        exact hblk)
      clear hblk so
      go_wp2_with (fail)
      exact HQ.out _ _ _ _ _ _ _ _ _ _ _ _ _ _ _ _ _ _ _ _ _ _ _ _ _ _ _ HB2 HL
set_option maxRecDepth 100000 in
set_option maxHeartbeats 2000000 in
theorem nof_any (B : Nat) (T : TypeId) (xs : List UInt8) (w : World) (hb : Blk w B T (xs.map bv)) (hl : xs.length = 17) :
    Calls Tryd.prog 49 #[.pointer (some ⟨B, 0, none⟩)] w fun e w' => e = .returned (.agg ((lim (numB xs)).map wq).toArray) ∧ Below w.heap.size w w' := by
  have HI : Hid ((Tryd.prog.info? 80).map (·.size) = some 5) := Lib.hid num_info
  have hlt := hb.lt
  obtain ⟨W1, hW1⟩ : ∃ W : World, W = (w.alloc (.cells (List.replicate 5 (Value.int .u64 0)).toArray 80)).alloc (.cells (List.replicate 5 (Value.int .u64 0)).toArray 80) := ⟨_, rfl⟩
  have D1 : Hid (Below w.heap.size w W1) := Lib.hid (by rw [hW1]; exact ((Below.refl _ _).alloc (Nat.le_refl _) _).alloc (by simp) _)
  have B1 : Hid (Blk W1 B T (xs.map bv)) := Lib.hid (by rw [hW1]; exact (hb.alloc _).alloc _)
  have R1 : Hid (Blk W1 w.heap.size 80 (List.replicate 5 (Value.int .u64 0))) := Lib.hid (by rw [hW1]; exact (Blk.made w _ _).alloc _)
  have N1 : Hid (Blk W1 (w.heap.size + 1) 80 ((List.replicate 5 0).map wq)) := Lib.hid (by
    have h := Blk.made (w.alloc (.cells (List.replicate 5 (Value.int .u64 0)).toArray 80)) 80 (List.replicate 5 (Value.int .u64 0))
    rw [World.size_alloc] at h
    rw [hW1, List.map_replicate]
    exact h)
  have HL := Lib.hid hl
  obtain ⟨zs, hz⟩ : ∃ zs, zs = lim (numB xs) := ⟨_, rfl⟩
  have HZ := Lib.hid hz
  have HLZ : Hid ((zs.map wq).length = 5) := by show _ = _; rw [List.length_map, hz, lim_length]
  have HBN : Hid (B < w.heap.size) := Lib.hid hlt
  rw [← hz]
  clear hb hl hz hlt
  subst hW1
  go_enter Tryd.func49, Tryd.ntmps49
  go_wp2_with (fail)
  refine nof_loop _ _ _ _ _ _ _ _ _ _ _ _ _ _ _ _ _ _ _ _ _ _ _ _ _ _ _ _ B (w.heap.size + 1) T xs zs _ (by have := HBN.out; omega) HL HZ B1 N1 (Lib.hid ?_)
  intro u4 u5 u6 u7 u8 u9 u10 u11 u12 u13 u14 u15 u16 u17 u18 u19 u20 u21 u22 u23 u24 u25 u26 u27 u28 u29 w5 hb5 hs5
  have R5 := Lib.hid (hs5.out.blk R1.out (by omega))
  have D5 : Hid (Below w.heap.size w w5) := Lib.hid (D1.out.trans (hs5.out.below.mono (by omega)))
  clear hs5
  go_wp2_with (first
    | (refine wpList_load_blk rfl 80 (.tmp 3) rfl (w.heap.size + 1) rfl 80 (zs.map wq) _ hb5.out Tryd.underlying80 rfl (by rw [HLZ.out]; exact HI.out) ?_)
    | (refine wpList_store_blk rfl 80 (.tmp 2) (.tmp 30) rfl w.heap.size 80 _ R5.out (zs.map wq) rfl rfl (by rw [HLZ.out]; rfl) (by rw [HLZ.out]; exact HI.out) (wq_one _) ?_; intro w9 hb9 hs9))
  refine bodyPost_ret (v := .agg (zs.map wq).toArray) ?_ rfl ⟨rfl, D5.out.trans hs9.below⟩
  exact results_blk (ty := 80) Tryd.results49 _ w9 w.heap.size 80 (zs.map wq) _ rfl hb9 Tryd.underlying80 rfl (by rw [HLZ.out]; exact HI.out)
end Go.Proofs.YtmoffodmbbkolaaDoor

/- The contract of poly's times: the product modulo 2^130 - 5. Conditions: five limbs each, of the one below 2^28, of the other below 2^26. -/
namespace Go.Proofs.YtmoffodmbbkolaaDoor
open Go.RowKit

set_option maxRecDepth 100000 in
set_option maxHeartbeats 2000000 in
theorem times_any (ns rs : List Nat) (w : World) (hn : ns.length = 5) (hr : rs.length = 5) (hnb : ∀ q, q < 5 → ns.getD q 0 ≤ 268435455) (hrb : ∀ q, q < 5 → rs.getD q 0 ≤ 67108863) :
    Calls Tryd.prog 43 #[.agg (ns.map wq).toArray, .agg (rs.map wq).toArray] w (RedPost w (lv ns * lv rs)) := by
  have HI : Hid ((Tryd.prog.info? 80).map (·.size) = some 5) := Lib.hid num_info
  obtain ⟨W1, hW1⟩ : ∃ W : World, W = (((w.alloc (.cells (ns.map wq).toArray 80)).alloc (.cells (rs.map wq).toArray 80)).alloc (.cells (List.replicate 5 (Value.int .u64 0)).toArray 80)).alloc (.cells (List.replicate 5 (Value.int .u64 0)).toArray 80) := ⟨_, rfl⟩
  have S1 : W1.heap.size = w.heap.size + 1 + 1 + 1 + 1 := by rw [hW1]; simp
  have D1 : Hid (Below w.heap.size w W1) := Lib.hid (by rw [hW1]; exact ((((Below.refl _ _).alloc (Nat.le_refl _) _).alloc (by simp) _).alloc (by simp; omega) _).alloc (by simp; omega) _)
  have A1 : Hid (Blk W1 w.heap.size 80 (ns.map wq)) := Lib.hid (by rw [hW1]; exact (((Blk.made w _ _).alloc _).alloc _).alloc _)
  have M1 : Hid (Blk W1 (w.heap.size + 1) 80 (rs.map wq)) := Lib.hid (by
    have h := ((Blk.made (w.alloc (.cells (ns.map wq).toArray 80)) 80 (rs.map wq)).alloc (.cells (List.replicate 5 (Value.int .u64 0)).toArray 80)).alloc (.cells (List.replicate 5 (Value.int .u64 0)).toArray 80)
    rw [World.size_alloc] at h
    rw [hW1]
    exact h)
  have R1 : Hid (Blk W1 (w.heap.size + 1 + 1) 80 (List.replicate 5 (Value.int .u64 0))) := Lib.hid (by
    have h := (Blk.made ((w.alloc (.cells (ns.map wq).toArray 80)).alloc (.cells (rs.map wq).toArray 80)) 80 (List.replicate 5 (Value.int .u64 0))).alloc (.cells (List.replicate 5 (Value.int .u64 0)).toArray 80)
    rw [World.size_alloc, World.size_alloc] at h
    rw [hW1]
    exact h)
  have P1 : Hid (Blk W1 (w.heap.size + 1 + 1 + 1) 80 ((List.replicate 5 0).map wq)) := Lib.hid (by
    have h := Blk.made (((w.alloc (.cells (ns.map wq).toArray 80)).alloc (.cells (rs.map wq).toArray 80)).alloc (.cells (List.replicate 5 (Value.int .u64 0)).toArray 80)) 80 (List.replicate 5 (Value.int .u64 0))
    rw [World.size_alloc, World.size_alloc, World.size_alloc] at h
    rw [hW1, List.map_replicate]
    exact h)
  have HN := Lib.hid hn
  have HR := Lib.hid hr
  have HNB := Lib.hid hnb
  have HRB := Lib.hid hrb
  have HS1 := Lib.hid S1
  clear hn hr hnb hrb S1
  subst hW1
  go_enter Tryd.func43, Tryd.ntmps43
  go_wp2_with (first
               | refine Go.Great.wpList_boxTo rfl _ _ rfl _ rfl w.heap.size rfl ((ns.map wq).toArray) rfl ?_
               | refine Go.Great.wpList_boxTo rfl _ _ rfl _ rfl (w.heap.size + 1) (by simp) ((rs.map wq).toArray) rfl ?_)
  refine tmo_loop _ _ _ _ _ _ _ _ _ _ _ _ _ _ _ _ _ _ _ _ _ _ _ _ _ _ _ _ _ _ _ _ _ _ _ _ _ _ _ _ _ _ _ _ _ _ _ _ w.heap.size (w.heap.size + 1) (w.heap.size + 1 + 1 + 1) 80 ns rs _ HN HR HNB HRB (by omega) (by omega) A1 M1 P1 (Lib.hid ?_)
  intro u6 u7 u8 u9 u10 u11 u12 u13 u14 u15 u16 u17 u18 u19 u20 u21 u22 u23 u24 u25 u26 u27 u28 u29 u30 u31 u32 u33 u34 u35 u36 u37 u38 u39 u40 u41 u42 u43 u44 u45 u46 u47 u48 u49 out w5 hp5 hb5 hs5
  have R5 := Lib.hid (hs5.out.blk R1.out (by omega))
  have D5 : Hid (Below w.heap.size w w5) := Lib.hid (D1.out.trans (hs5.out.below.mono (by omega)))
  have S5 : Hid (w.heap.size + 1 + 1 + 1 + 1 ≤ w5.heap.size) := Lib.hid (by rw [hs5.out.size]; exact Nat.le_of_eq HS1.out.symm)
  have HM := Lib.hid (mul_all hp5.out HN.out)
  have HLP : Hid ((out.map wq).length = 5) := by show _ = _; rw [List.length_map]; exact HM.out.1
  clear hs5 A1 M1 P1 R1 D1 HS1 hp5
  go_wp2_with (first
    | (refine wpList_load_blk rfl 80 (.tmp 5) rfl (w.heap.size + 1 + 1 + 1) rfl 80 (out.map wq) _ hb5.out Tryd.underlying80 rfl (by rw [HLP.out]; exact HI.out) ?_))
  refine (reduced_any out (lv out) _ (han_zero HM.out.1 HM.out.2.2)).mono ?_
  rintro e w6 ⟨R, rfl, hR, hv, hb6⟩
  have R6 := Lib.hid (R5.out.below hb6 R5.out.lt)
  have D6 : Hid (Below w.heap.size w w6) := Lib.hid (D5.out.trans (hb6.mono D5.out.size))
  have HRR : Hid (RedP R ∧ lv R % p130 = lv ns * lv rs % p130) := Lib.hid ⟨hR, by rw [hv]; exact HM.out.2.1⟩
  have HLR : Hid ((R.map wq).length = 5) := by show _ = _; rw [List.length_map]; exact HRR.out.1.1
  clear hR hv hb6
  go_wp2_with (first
    | (refine wpList_store_blk rfl 80 (.tmp 4) (.tmp 51) rfl (w.heap.size + 1 + 1) 80 _ R6.out (R.map wq) rfl rfl (by rw [HLR.out]; rfl) (by rw [HLR.out]; exact HI.out) (wq_one _) ?_; intro w9 hb9 hs9))
  refine bodyPost_ret (v := .agg (R.map wq).toArray) ?_ rfl ⟨R, rfl, HRR.out.1, HRR.out.2, D6.out.trans (hs9.below.mono (by omega))⟩
  exact results_blk (ty := 80) Tryd.results43 _ w9 (w.heap.size + 1 + 1) 80 (R.map wq) _ rfl hb9 Tryd.underlying80 rfl (by rw [HLR.out]; exact HI.out)
end Go.Proofs.YtmoffodmbbkolaaDoor
