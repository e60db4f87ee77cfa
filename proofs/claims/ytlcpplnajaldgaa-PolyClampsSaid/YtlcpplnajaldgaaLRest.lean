/- The contract of poly's rest: what is left of a number by 2^130 - 5. Conditions: limbs as reduced leaves them. -/
import Derived.Test.YtlcpplnajaldgaaLRed
namespace Go.Proofs.Ytlcpplnajaldgaa
open Go.RowKit

theorem mix_set {zs ns : List Nat} {i : Nat} (hi : i < 5) (hz : zs.length = 5) (hn : ns.length = 5) : (zs.take i ++ ns.drop i).set i (zs.getD i 0) = zs.take (i + 1) ++ ns.drop (i + 1) := by
  rw [List.set_append_right _ _ (by rw [List.length_take, hz]; omega), List.length_take, hz, Nat.min_eq_left (by omega), Nat.sub_self, List.drop_eq_getElem_cons (by omega), List.set_cons_zero, List.take_succ_eq_append_getElem (by omega), List.append_assoc]
  have e : zs.getD i 0 = zs[i]'(by omega) := by rw [List.getD, List.getElem?_eq_getElem (by omega)]; rfl
  rw [e]
  rfl
theorem mix_at {zs ns : List Nat} {i : Nat} (hi : i < 5) (hz : zs.length = 5) : (zs.take i ++ ns.drop i).getD i 0 = ns.getD i 0 := by
  rw [List.getD, List.getElem?_append_right (by rw [List.length_take, hz]; omega), List.length_take, hz, Nat.min_eq_left (by omega), Nat.sub_self, List.getElem?_drop, Nat.add_zero]
  rfl
def RstRel (w : World) (B : Nat) (ns zs : List Nat) (T : TypeId) (v : Value) (W : World) : Prop := ∃ i : Nat, v = .int .i64 (i : Int) ∧ i ≤ 5 ∧ Blk W B T ((zs.take i ++ ns.drop i).map wq) ∧ Sole w W B
noncomputable def body_rst : Code := (((Try.f25.body.map loopsOf).getD [])[0]?).getD .skip
set_option maxRecDepth 100000 in
set_option maxHeartbeats 2000000 in
theorem rst_loop (c0 c2 c5 c6 c7 c8 c9 c10 c11 c12 c14 c15 c16 c17 c18 c19 c20 c21 c22 c23 c24 c25 c26 c27 c28 c29 c30 c31 : Value) (B C : Nat) (T : TypeId) (K : Int) (ns ls zs : List Nat) (w : World) (hne : C ≠ B) (hn : Hid (ns.length = 5)) (hl : Hid (ls.length = 5)) (hz : Hid (zs.length = 5))
    (hk : Hid (∀ q, q < 5 → Value.int .u64 (bits .xor .u64 ((ns.getD q 0 : Nat) : Int) (bits .and .u64 (bits .xor .u64 ((ns.getD q 0 : Nat) : Int) ((ls.getD q 0 : Nat) : Int)) K)) = wq (zs.getD q 0))) (h0 : Hid (Blk w B T (ns.map wq))) (h1 : Hid (Blk w C T (ls.map wq))) {Q : Exit → Act → World → Prop}
    (HQ : Hid (∀ (u5 u13 u14 u15 u16 u17 u18 u19 u20 u21 u22 u23 u24 u25 u26 u27 u28 u29 u30 : Value) (wx : World), Hid (Blk wx B T (zs.map wq)) → Hid (Sole w wx B) → Q (.exit 0) ⟨List.toArray (c0 :: (.pointer (some ⟨B, 0, none⟩)) :: c2 :: (.pointer (some ⟨C, 0, none⟩)) :: (.int .u64 K) :: u5 :: c6 :: c7 :: c8 :: c9 :: c10 :: c11 :: c12 :: u13 :: u14 :: u15 :: u16 :: u17 :: u18 :: u19 :: u20 :: u21 :: u22 :: u23 :: u24 :: u25 :: u26 :: u27 :: u28 :: u29 :: u30 :: c31 :: []), []⟩ wx)) :
    (Code.loop body_rst).wp Try.prog Q ⟨List.toArray (c0 :: (.pointer (some ⟨B, 0, none⟩)) :: c2 :: (.pointer (some ⟨C, 0, none⟩)) :: (.int .u64 K) :: c5 :: c6 :: c7 :: c8 :: c9 :: c10 :: c11 :: c12 :: (.int .i64 0) :: c14 :: c15 :: c16 :: c17 :: c18 :: c19 :: c20 :: c21 :: c22 :: c23 :: c24 :: c25 :: c26 :: c27 :: c28 :: c29 :: c30 :: c31 :: []), []⟩ w := by
  unfold body_rst
  conv => arg 2; arg 1; whnf
  go_loopw [13] (fun v wx => RstRel w B ns zs T v wx) (fun v _ => 5 - (intOf v).toNat)
  case atStart => exact ⟨0, rfl, by omega, by simpa using h0.out, Sole.refl _ _⟩
  case round =>
    obtain ⟨i, rfl, hi, hblk, so⟩ := hrel
    have HB := Lib.hid hblk
    have HL := Lib.hid so
    by_cases hlt : i < 5
    · have hI : (i : Int) < 5 := by omega
      have hlen : (zs.take i ++ ns.drop i).length = 5 := by rw [List.length_append, List.length_take, List.length_drop, hz.out, hn.out]; omega
      have HX := Lib.hid (hk.out i hlt)
      have HS := Lib.hid (mix_set (ns := ns) hlt hz.out hn.out)
      have ce := rq_cell hblk (i := i) (by rw [hlen]; exact hlt)
      rw [mix_at hlt hz.out] at ce
      have cx := rq_cell (so.blk h1.out hne) (i := i) (by rw [hl.out]; exact hlt)
      obtain ⟨e, he⟩ : ∃ e, e = ns.getD i 0 := ⟨_, rfl⟩
      obtain ⟨x, hx⟩ : ∃ x, x = ls.getD i 0 := ⟨_, rfl⟩
      obtain ⟨z, hzz⟩ : ∃ z, z = zs.getD i 0 := ⟨_, rfl⟩
      rw [← he] at ce HX
      rw [← hx] at cx HX
      rw [← hzz] at HX HS
      have f0 : wr.frozen? ⟨B, i, none⟩ = false := hblk.free _
      clear he hx hzz hblk so hi hlen
      go_wp2_with (fail)
      go_still_tail 14, (by kernel_rfl)
      change wpList _ _ _ _ _ wr.drew
      go_wp2_with (fail)
      go_roundw
      case rel =>
        have h := (HB.out.set i (wq z)).drew
        rw [← List.map_set, HS.out] at h
        rw [HX.out]
        exact ⟨i + 1, by go_num, by omega, h, sole_drew (HL.out.trans (Sole.setCell wr B i _))⟩
      case measure => simp [intOf]; omega
    · obtain rfl : i = 5 := by omega
      have HB2 : Hid (Blk wr B T (zs.map wq)) := Lib.hid (by
        have e : zs.take 5 ++ ns.drop 5 = zs := by
          rw [List.take_of_length_le (by rw [hz.out]; omega), List.drop_of_length_le (by rw [hn.out]; omega), List.append_nil]
        rw [← e]
        exact hblk)
      clear hblk so
      go_wp2_with (fail)
      exact HQ.out _ _ _ _ _ _ _ _ _ _ _ _ _ _ _ _ _ _ _ _ HB2 HL
theorem mask_none (a b : Nat) (ha : a < 18446744073709551616) (hb : b < 18446744073709551616) : Value.int .u64 (bits .xor .u64 (a : Int) (bits .and .u64 (bits .xor .u64 (a : Int) (b : Int)) 0)) = wq a := by
  have hx := Nat.xor_lt_two_pow (n := 64) ha hb
  rw [u64_xor_nat a b ha hb, show (0 : Int) = ((0 : Nat) : Int) from rfl, u64_and_nat _ 0 hx (by decide), u64_xor_nat a _ ha (by rw [Nat.and_zero]; decide), Nat.and_zero, Nat.xor_zero]
  rfl
theorem mask_all (a b : Nat) (ha : a < 18446744073709551616) (hb : b < 18446744073709551616) : Value.int .u64 (bits .xor .u64 (a : Int) (bits .and .u64 (bits .xor .u64 (a : Int) (b : Int)) 18446744073709551615)) = wq b := by
  have hx := Nat.xor_lt_two_pow (n := 64) ha hb
  have e : (a ^^^ b) &&& 18446744073709551615 = a ^^^ b := by
    have h := Nat.and_two_pow_sub_one_eq_mod (a ^^^ b) 64
    rw [Nat.mod_eq_of_lt hx] at h
    exact h
  rw [u64_xor_nat a b ha hb, show (18446744073709551615 : Int) = ((18446744073709551615 : Nat) : Int) from rfl, u64_and_nat _ _ hx (by decide), e, u64_xor_nat a _ ha hx, ← Nat.xor_assoc, Nat.xor_self, Nat.zero_xor]
  rfl
/-- What handOn tells of a number and 5. -/
def LessPost (w : World) (L : Nat) (T : TypeId) (R : List Nat) (e : Ending) (w' : World) : Prop := ∃ (x : Int) (out : List Nat), e = .returned (.int .u64 x) ∧ Blk w' L T (out.map wq) ∧ Sole w w' L ∧ out.length = 5 ∧ (∀ q, q < 5 → out.getD q 0 < 67108864) ∧ ((x = 0 ∧ lv R = lv R % p130) ∨ (x = 1 ∧ lv out = lv R % p130))
theorem less_any (L : Nat) (T : TypeId) (R : List Nat) (a : Nat) (w : World) (hr : RedP R) (ha : a = R.getD 0 0) (hb : Blk w L T ((R.set 0 (a + 5)).map wq)) :
    Calls Try.prog 31 #[.pointer (some ⟨L, 0, none⟩)] w (LessPost w L T R) := by
  have hp : HanP (R.set 0 (a + 5)) 0 0 (lv (R.set 0 (a + 5))) := han_zero (by rw [List.length_set]; exact hr.1) (fun q hq => by
    by_cases e : 0 = q
    · subst e
      rw [gs_self (by rw [hr.1]; omega), ha]
      have := hr.2.1 0 (by omega)
      omega
    · rw [gs_ne e]
      have := hr.2.1 q hq
      omega)
  refine (han_any L _ T _ w hb hp).mono ?_
  rintro e w' ⟨c, out, rfl, hh, h1, h2⟩
  refine ⟨(c : Int), out, rfl, h1, h2, hh.1, fun q hq => hh.2.2.1 q hq hq, ?_⟩
  rcases rest_of hr ha hh with ⟨rfl, h⟩ | ⟨rfl, h⟩
  · exact .inl ⟨rfl, h⟩
  · exact .inr ⟨rfl, h⟩
/-- Below the modulus; limbs that have little beyond 26 bits. -/
def RestPost (w : World) (N : Nat) (e : Ending) (w' : World) : Prop := ∃ R : List Nat, e = .returned (.agg (R.map wq).toArray) ∧ R.length = 5 ∧ (∀ q, q < 5 → R.getD q 0 < 67112960) ∧ lv R = N ∧ Below w.heap.size w w'
set_option maxRecDepth 100000 in
set_option maxHeartbeats 4000000 in
theorem rest_any (R : List Nat) (w : World) (hr : RedP R) :
    Calls Try.prog 25 #[.agg (R.map wq).toArray] w (RestPost w (lv R % p130)) := by
  have HI : Hid ((Try.prog.info? 46).map (·.size) = some 5) := Lib.hid num_info
  obtain ⟨W1, hW1⟩ : ∃ W : World, W = ((w.alloc (.cells (R.map wq).toArray 46)).alloc (.cells (List.replicate 5 (Value.int .u64 0)).toArray 46)).alloc (.cells (List.replicate 5 (Value.int .u64 0)).toArray 46) := ⟨_, rfl⟩
  have S1 : W1.heap.size = w.heap.size + 1 + 1 + 1 := by rw [hW1]; simp
  have D1 : Hid (Below w.heap.size w W1) := Lib.hid (by rw [hW1]; exact (((Below.refl _ _).alloc (Nat.le_refl _) _).alloc (by simp) _).alloc (by simp; omega) _)
  have A0 : Hid (Blk ((w.alloc (.cells (R.map wq).toArray 46)).alloc (.cells (List.replicate 5 (Value.int .u64 0)).toArray 46)) w.heap.size 46 (R.map wq)) := Lib.hid ((Blk.made w _ _).alloc _)
  have A1 : Hid (Blk W1 w.heap.size 46 (R.map wq)) := Lib.hid (by rw [hW1]; exact ((Blk.made w _ _).alloc _).alloc _)
  have R1 : Hid (Blk W1 (w.heap.size + 1) 46 (List.replicate 5 (Value.int .u64 0))) := Lib.hid (by
    have h := (Blk.made (w.alloc (.cells (R.map wq).toArray 46)) 46 (List.replicate 5 (Value.int .u64 0))).alloc (.cells (List.replicate 5 (Value.int .u64 0)).toArray 46)
    rw [World.size_alloc] at h
    rw [hW1]
    exact h)
  have L1 : Hid (Blk W1 (w.heap.size + 1 + 1) 46 (List.replicate 5 (Value.int .u64 0))) := Lib.hid (by
    have h := Blk.made ((w.alloc (.cells (R.map wq).toArray 46)).alloc (.cells (List.replicate 5 (Value.int .u64 0)).toArray 46)) 46 (List.replicate 5 (Value.int .u64 0))
    rw [World.size_alloc, World.size_alloc] at h
    rw [hW1]
    exact h)
  have HR := Lib.hid hr
  have HLR : Hid ((R.map wq).length = 5) := by show _ = _; rw [List.length_map]; exact hr.1
  have HS1 := Lib.hid S1
  clear hr S1
  subst hW1
  go_enter Try.func25, Try.ntmps25
  go_wp2_with (first
               | refine Go.Great.wpList_boxTo rfl _ _ rfl _ rfl w.heap.size rfl ((R.map wq).toArray) rfl ?_
               | (refine wpList_load_blk rfl 46 (.tmp 1) rfl w.heap.size rfl 46 (R.map wq) _ A0.out Try.underlying46 rfl (by rw [HLR.out]; exact HI.out) ?_)
               | (refine wpList_store_blk rfl 46 (.tmp 3) (.tmp 6) rfl (w.heap.size + 1 + 1) 46 _ L1.out (R.map wq) rfl rfl (by rw [HLR.out]; rfl) (by rw [HLR.out]; exact HI.out) (wq_one _) ?_
                  intro w2 hb2 hs2
                  obtain ⟨a, ha⟩ : ∃ a, a = R.getD 0 0 := ⟨_, rfl⟩
                  have c0 := rq_cell hb2 (i := 0) (by rw [HR.out.1]; omega)
                  rw [← ha] at c0
                  have f0 : w2.frozen? ⟨w.heap.size + 1 + 1, 0, none⟩ = false := hb2.free _
                  have aI : (a : Int) ≤ 67112959 := by have := HR.out.2.1 0 (by omega); rw [← ha] at this; omega
                  have HA := Lib.hid ha
                  have HB2 := Lib.hid hb2
                  have HS2 := Lib.hid hs2
                  clear ha hb2 hs2 A0 L1))
  have hb3 := HB2.out.set 0 (wq (a + 5))
  rw [← List.map_set] at hb3
  have e5 : wq (a + 5) = Value.int .u64 ((a : Int) + 5) := congrArg (Value.int .u64) (by omega)
  rw [e5] at hb3
  refine (less_any (w.heap.size + 1 + 1) 46 R a _ HR.out HA.out hb3).mono ?_
  rintro e w3 ⟨x, out, rfl, hb, hs, hl, hlt, hv⟩
  have so := HS2.out.trans ((Sole.setCell _ _ _ _).trans hs)
  have HB3 := Lib.hid hb
  have A3 := Lib.hid (so.blk A1.out (by omega))
  have R3 := Lib.hid (so.blk R1.out (by omega))
  have D3 : Hid (Below w.heap.size w w3) := Lib.hid (D1.out.trans (so.below.mono (by omega)))
  have HO : Hid (out.length = 5 ∧ ∀ q, q < 5 → out.getD q 0 < 67108864) := Lib.hid ⟨hl, hlt⟩
  have HOL : Hid (out.length = 5) := Lib.hid hl
  have HRL : Hid (R.length = 5) := Lib.hid HR.out.1
  clear hb hs so hl hlt hb3 e5 A1 R1 D1 HS1 HB2 HS2 HA c0 f0 aI
  rcases hv with ⟨rfl, hv⟩ | ⟨rfl, hv⟩
  · have HV := Lib.hid hv
    have LZ : Hid ((R).length = 5) := Lib.hid (HR.out.1)
    have BZ : Hid (∀ q, q < 5 → (R).getD q 0 < 67112960) := Lib.hid (HR.out.2.1)
    have VZ : Hid (lv (R) = lv R % p130) := Lib.hid (HV.out)
    have HLZ : Hid (((R).map wq).length = 5) := by show _ = _; rw [List.length_map]; exact LZ.out
    have HK : Hid (∀ q, q < 5 → Value.int .u64 (bits .xor .u64 ((R.getD q 0 : Nat) : Int) (bits .and .u64 (bits .xor .u64 ((R.getD q 0 : Nat) : Int) ((out.getD q 0 : Nat) : Int)) 0)) = wq ((R).getD q 0)) := Lib.hid fun q hq => mask_none _ _ (by have := HR.out.2.1 q hq; omega) (by have := HO.out.2 q hq; omega)
    clear hv
    go_wp2_with (fail)
    refine rst_loop _ _ _ _ _ _ _ _ _ _ _ _ _ _ _ _ _ _ _ _ _ _ _ _ _ _ _ _ w.heap.size (w.heap.size + 1 + 1) 46 0 R out (R) _ (by omega) HRL HOL LZ HK A3 HB3 (Lib.hid ?_)
    intro u5 u13 u14 u15 u16 u17 u18 u19 u20 u21 u22 u23 u24 u25 u26 u27 u28 u29 u30 w5 hb5 hs5
    have R5 := Lib.hid (hs5.out.blk R3.out (by omega))
    have D5 : Hid (Below w.heap.size w w5) := Lib.hid (D3.out.trans hs5.out.below)
    clear hs5 A3 HB3 R3 D3
    go_wp2_with (first
      | (refine wpList_load_blk rfl 46 (.tmp 1) rfl w.heap.size rfl 46 (R.map wq) _ hb5.out Try.underlying46 rfl (by rw [HLZ.out]; exact HI.out) ?_)
      | (refine wpList_store_blk rfl 46 (.tmp 2) (.tmp 31) rfl (w.heap.size + 1) 46 _ R5.out (R.map wq) rfl rfl (by rw [HLZ.out]; rfl) (by rw [HLZ.out]; exact HI.out) (wq_one _) ?_; intro w9 hb9 hs9))
    refine bodyPost_ret (v := .agg (R.map wq).toArray) ?_ rfl ⟨R, rfl, LZ.out, BZ.out, VZ.out, D5.out.trans (hs9.below.mono (by omega))⟩
    exact results_blk (ty := 46) Try.results25 _ w9 (w.heap.size + 1) 46 (R.map wq) _ rfl hb9 Try.underlying46 rfl (by rw [HLZ.out]; exact HI.out)
  · have HV := Lib.hid hv
    have LZ : Hid ((out).length = 5) := Lib.hid (HO.out.1)
    have BZ : Hid (∀ q, q < 5 → (out).getD q 0 < 67112960) := Lib.hid (fun q hq => by have := HO.out.2 q hq; omega)
    have VZ : Hid (lv (out) = lv R % p130) := Lib.hid (HV.out)
    have HLZ : Hid (((out).map wq).length = 5) := by show _ = _; rw [List.length_map]; exact LZ.out
    have HK : Hid (∀ q, q < 5 → Value.int .u64 (bits .xor .u64 ((R.getD q 0 : Nat) : Int) (bits .and .u64 (bits .xor .u64 ((R.getD q 0 : Nat) : Int) ((out.getD q 0 : Nat) : Int)) 18446744073709551615)) = wq ((out).getD q 0)) := Lib.hid fun q hq => mask_all _ _ (by have := HR.out.2.1 q hq; omega) (by have := HO.out.2 q hq; omega)
    clear hv
    go_wp2_with (fail)
    refine rst_loop _ _ _ _ _ _ _ _ _ _ _ _ _ _ _ _ _ _ _ _ _ _ _ _ _ _ _ _ w.heap.size (w.heap.size + 1 + 1) 46 18446744073709551615 R out (out) _ (by omega) HRL HOL LZ HK A3 HB3 (Lib.hid ?_)
    intro u5 u13 u14 u15 u16 u17 u18 u19 u20 u21 u22 u23 u24 u25 u26 u27 u28 u29 u30 w5 hb5 hs5
    have R5 := Lib.hid (hs5.out.blk R3.out (by omega))
    have D5 : Hid (Below w.heap.size w w5) := Lib.hid (D3.out.trans hs5.out.below)
    clear hs5 A3 HB3 R3 D3
    go_wp2_with (first
      | (refine wpList_load_blk rfl 46 (.tmp 1) rfl w.heap.size rfl 46 (out.map wq) _ hb5.out Try.underlying46 rfl (by rw [HLZ.out]; exact HI.out) ?_)
      | (refine wpList_store_blk rfl 46 (.tmp 2) (.tmp 31) rfl (w.heap.size + 1) 46 _ R5.out (out.map wq) rfl rfl (by rw [HLZ.out]; rfl) (by rw [HLZ.out]; exact HI.out) (wq_one _) ?_; intro w9 hb9 hs9))
    refine bodyPost_ret (v := .agg (out.map wq).toArray) ?_ rfl ⟨out, rfl, LZ.out, BZ.out, VZ.out, D5.out.trans (hs9.below.mono (by omega))⟩
    exact results_blk (ty := 46) Try.results25 _ w9 (w.heap.size + 1) 46 (out.map wq) _ rfl hb9 Try.underlying46 rfl (by rw [HLZ.out]; exact HI.out)
end Go.Proofs.Ytlcpplnajaldgaa
