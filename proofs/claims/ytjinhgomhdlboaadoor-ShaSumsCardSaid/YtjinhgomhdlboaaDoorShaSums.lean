/- What is proved: 'ShaSums' (law 2) returns true whatever comes in: the fingerprint of any bytes is the document's, however they are cut; they stay; its beginning is a number; the arguments read afterwards as before.
   Conditions: none of its own. The table of the rounds reads as the program's text lays it (the card ties it; the translation is a pruned copy of the project). -/
import Derived.Test.YtjinhgomhdlboaaDoorCards
import Derived.Test.YtjinhgomhdlboaaDoorTie
import Derived.Test.YtjinhgomhdlboaaDoorLaid
import Derived.Test.YtjinhgomhdlboaaDoorShaAwake
import Derived.Test.YtjinhgomhdlboaaDoorLent
import Derived.Test.YtjinhgomhdlboaaDoorPick
import Derived.Test.YtjinhgomhdlboaaDoorArrAll
import Derived.Deep.RegionHeld3
import Derived.SevenTiedAt
namespace Go.Proofs.YtjinhgomhdlboaaDoor.shaSums
open Go.ChangeShapes Go.WideShapes Go.ChangeAt Go.ChangeMaps Go.RowKit

theorem pick_any' (k N : Int) (n : Nat) (w : World) (hN : N = (n : Int)) (hk : (Lit.int .i64 k).wf = true) (hn : 1 ≤ n) (hn2 : n ≤ 1000000) :
    Calls Tryd.prog 7 #[.int .i64 k, .int .i64 N] w fun e w' => (∃ m : Nat, e = .returned (.int .i64 (m : Int)) ∧ m < n) ∧ w = w' := hN ▸ pick_any k n w hk hn hn2
/-- What the last statement leans on. -/
structure TS (w : World) (g B k j : Nat) (v0 v1 v2 v3 : Value) (x0 : List UInt8) (cs : List Value) (V : World) : Prop where
  lent : LentAt V g x0
  b : Rd V v0 x0
  r1 : Rd V v1 (x0.take k)
  r2 : Rd V v2 ((x0.drop k).take (j - k))
  r3 : Rd V v3 (x0.drop j)
  blk : Blk V B 27 cs
  salts : Salts V
  below : Below w.heap.size w V
section
variable {w : World} {g B k j : Nat} {v0 v1 v2 v3 : Value} {x0 : List UInt8} {cs : List Value} {V V' : World}
theorem TS.on (h : TS w g B k j v0 v1 v2 v3 x0 cs V) (hb : Below V.heap.size V V') : TS w g B k j v0 v1 v2 v3 x0 cs V' :=
  ⟨h.lent.below hb, h.b.below hb, h.r1.below hb, h.r2.below hb, h.r3.below hb, h.blk.below hb h.blk.lt, h.salts.below hb, h.below.trans (hb.mono h.below.size)⟩
theorem TS.drewN (h : TS w g B k j v0 v1 v2 v3 x0 cs V) (n : Nat) : TS w g B k j v0 v1 v2 v3 x0 cs (V.drewN n) := h.on (below_drewN (Below.refl _ _) n)
theorem TS.drew (h : TS w g B k j v0 v1 v2 v3 x0 cs V) : TS w g B k j v0 v1 v2 v3 x0 cs V.drew := h.on (Below.refl _ _).drew
theorem TS.alloc (h : TS w g B k j v0 v1 v2 v3 x0 cs V) (o : Obj) : TS w g B k j v0 v1 v2 v3 x0 cs (V.alloc o) := h.on ((Below.refl _ _).alloc (Nat.le_refl _) o)
theorem Blk.range {V : World} {B : Nat} {t : TypeId} {cs : List Value} (h : Blk V B t cs) : V.rangeAt B 0 cs := fun j v hv => by
  rw [Nat.zero_add, h.cell j]
  exact hv
theorem up (h : TS w g B k j v0 v1 v2 v3 x0 cs V) : V.rangeAt B 0 cs ∧ TS w g B k j v0 v1 v2 v3 x0 cs V := ⟨Blk.range h.blk, h⟩
theorem dn (h : V.rangeAt B 0 cs ∧ TS w g B k j v0 v1 v2 v3 x0 cs V) : TS w g B k j v0 v1 v2 v3 x0 cs V := h.2
end
theorem cut_four (x : List UInt8) {k j : Nat} (h : k ≤ j) : [x.take k, (x.drop k).take (j - k), [], x.drop j].flatten = x := by
  have e : x.drop j = (x.drop k).drop (j - k) := by rw [List.drop_drop]; congr 1; omega
  simp only [List.flatten_cons, List.flatten_nil, List.append_nil, List.nil_append]
  rw [e, List.take_append_drop, List.take_append_drop]
theorem rs_four {W : World} {v1 v2 v3 v4 : Value} {a b c d : List UInt8} {t : TypeId} (h1 : Rd W v1 a) (h2 : Rd W v2 b) (h3 : Rd W v3 c) (h4 : Rd W v4 d) : Rs (W.alloc (.cells #[v1, v2, v3, v4] t)) (.slice (some ⟨W.heap.size, 0, none⟩) 4 4) [a, b, c, d] := by
  refine ⟨W.heap.size, 4, rfl, by simp, fun i hi => ?_⟩
  have h : i = 0 ∨ i = 1 ∨ i = 2 ∨ i = 3 := by simp at hi; omega
  rcases h with rfl | rfl | rfl | rfl
  · exact ⟨v1, by rw [cell_of_row _ W.heap.size 0 _ _ _ (heap_alloc_new W _)]; rfl, h1.alloc _⟩
  · exact ⟨v2, by rw [cell_of_row _ W.heap.size 1 _ _ _ (heap_alloc_new W _)]; rfl, h2.alloc _⟩
  · exact ⟨v3, by rw [cell_of_row _ W.heap.size 2 _ _ _ (heap_alloc_new W _)]; rfl, h3.alloc _⟩
  · exact ⟨v4, by rw [cell_of_row _ W.heap.size 3 _ _ _ (heap_alloc_new W _)]; rfl, h4.alloc _⟩
theorem shaB_length (xs : List UInt8) : (shaB xs).length = 32 := St.bytes_length _

set_option maxRecDepth 100000 in
set_option maxHeartbeats 1000000 in
theorem walk (v0 : Value) (x0 : List UInt8) (a1 a2 : Int) (w : World) (h0 : Rd w v0 x0) (k1 : (Lit.int .i64 a1).wf = true) (k2 : (Lit.int .i64 a2).wf = true) (hk : Salts w) :
    Calls Tryd.prog 3 #[v0, .int .i64 a1, .int .i64 a2] w fun e w' => e = .returned (.bool true) ∧ Below w.heap.size w w' := by
  obtain ⟨i0, hi, hz0, hz1, hz2⟩ := info_parts info_u8
  by_cases hl : x0.length ≤ 300
  · obtain ⟨A, c, rfl, hc1, hc2, _⟩ := h0.form
    unfold maxLen at hc2
    have HR := Lib.hid h0
    have HK := Lib.hid hk
    have K1 := Lib.hid k1
    have K2 := Lib.hid k2
    have lI : (x0.length : Int) ≤ 300 := by omega
    have HI : Hid ((Tryd.prog.info? 27).map (·.size) = some 32) := by show _ = _; kernel_rfl
    have HLB : Hid (((shaB x0).map bv).length = 32) := by show _ = _; rw [List.length_map, shaB_length]
    clear h0 hk hc1 k1 k2
    go_enter Tryd.func3, Tryd.ntmps3
    go_wp2_with (fail)
    refine (lent_any _ x0 _ HR.out (by omega)).mono ?_
    rintro e w1 ⟨g, rfl, hl1, hg1, hb1⟩
    have HL1 := Lib.hid hl1
    have D1 := Lib.hid hb1
    clear hl1 hb1
    go_wp2_with (fail)
    refine (pick_any' a1 _ (x0.length + 1) _ (by omega) K1.out (by omega) (by omega)).mono ?_
    rintro e w2 ⟨⟨k, rfl, hk⟩, rfl⟩
    have hkI : (k : Int) ≤ x0.length := by omega
    go_wp2_with (fail)
    refine (pick_any' a2 _ (x0.length - k + 1) _ (by omega) K2.out (by omega) (by omega)).mono ?_
    rintro e w2 ⟨⟨m, rfl, hm⟩, rfl⟩
    have hmI : (k : Int) + (m : Int) ≤ x0.length := by omega
    go_wp2_with (fail)
    obtain ⟨j, hj⟩ : ∃ j : Nat, j = k + m := ⟨_, rfl⟩
    rw [show (k : Int) + (m : Int) = (j : Int) by omega]
    have hkj : k ≤ j := by omega
    have hjl : j ≤ x0.length := by omega
    have hjI : (j : Int) ≤ x0.length := by omega
    have hkjI : (k : Int) ≤ j := by omega
    clear hj hmI hm hk
    refine (refSum_any _ x0 _ (HR.out.below D1.out) (by omega)).mono ?_
    rintro e w2 ⟨rfl, hb2⟩
    have HL2 := Lib.hid (HL1.out.below hb2)
    have D2 := Lib.hid (D1.out.trans (hb2.mono D1.out.size))
    have HM := Lib.hid (Blk.made w2 27 (List.replicate 32 (Value.int .u8 0)))
    clear hb2
    go_wp2_with (refine wpList_store_blk rfl 27 _ _ rfl w2.heap.size 27 _ HM.out ((shaB x0).map bv) rfl rfl (by rw [HLB.out]; rfl) (by rw [HLB.out]; exact HI.out) (bv_one _) ?_; intro w3 hb3 hs3)
    have hrd := HL2.out.rd (by omega)
    obtain ⟨A1, c1, S1, r1⟩ := hrd.high (P := Tryd.prog) 22 5 i0 Tryd.underlying22 hi hz1 k (by omega)
    obtain ⟨A2, c2, S2, r2⟩ := hrd.mid (P := Tryd.prog) 22 5 i0 Tryd.underlying22 hi hz1 k j hkj hjl
    obtain ⟨A3, c3, S3, r3⟩ := hrd.low (P := Tryd.prog) 22 5 i0 Tryd.underlying22 hi hz1 j (by omega)
    have D3 : Below w2.heap.size w2 w3 := ((Below.refl _ _).alloc (Nat.le_refl _) _).trans hs3.below
    obtain ⟨cs, hcs⟩ : ∃ cs, cs = (shaB x0).map bv := ⟨_, rfl⟩
    rw [← hcs] at hb3
    have TS0 : TS w g w2.heap.size k j (.slice A x0.length c) (.slice A1 k c1) (.slice A2 (j - k) c2) (.slice A3 (x0.length - j) c3) x0 cs w3 :=
      ⟨HL2.out.below D3, (HR.out.below D2.out).below D3, r1.below D3, r2.below D3, r3.below D3, hb3, (HK.out.below D2.out).below D3, D2.out.trans (D3.mono D2.out.size)⟩
    have hcl : cs.length = 32 := by rw [hcs]; exact HLB.out
    obtain ⟨B, hB⟩ : ∃ B, B = w2.heap.size := ⟨_, rfl⟩
    rw [← hB] at TS0 ⊢
    have arr : arrV (shaB x0) = .agg cs.toArray := by rw [hcs]; rfl
    have hx : ∀ W, (Op.equalIn 10000 27 (.agg cs.toArray) (.agg cs.toArray)).run Tryd.prog W = .ok true W := fun W => by
      have h := run_equal_bytes W 27 5 32 i0 Tryd.underlying27 Tryd.underlying5 hi hz1 (shaB x0) (shaB x0) (shaB_length _) (shaB_length _)
      rw [← hcs] at h
      simpa [Op.equal, Op.maxDepth] using h
    have one : ∀ v ∈ cs, v.oneCell' = true := by rw [hcs]; exact bv_one _
    have hu := Tryd.underlying27
    have hsi : (Tryd.prog.info? 27).map (·.size) = some cs.length := by rw [hcl]; exact HI.out
    have C1 : Hid (∀ V, (V.rangeAt B 0 cs ∧ TS w g B k j (.slice A x0.length c) (.slice A1 k c1) (.slice A2 (j - k) c2) (.slice A3 (x0.length - j) c3) x0 cs V) → Calls Tryd.prog 9 #[.slice (some ⟨V.heap.size, 0, none⟩) 1 1] (V.alloc (.cells #[.slice (some ⟨g, 0, none⟩) x0.length (x0.length + 8)] 22)) fun e V' => e = .returned (.agg cs.toArray) ∧ (V'.rangeAt B 0 cs ∧ TS w g B k j (.slice A x0.length c) (.slice A1 k c1) (.slice A2 (j - k) c2) (.slice A3 (x0.length - j) c3) x0 cs V')) := fun V hV => (of_any _ [x0] _ (rs_one (hV.2.lent.rd (by omega))) (by simp; omega) (by simp) (hV.2.salts.alloc _)).mono fun e V' ⟨he, hb⟩ => ⟨by rw [he, List.flatten_singleton, arr], up ((hV.2.alloc _).on hb)⟩
    have C1d : Hid (∀ V, (V.rangeAt B 0 cs ∧ TS w g B k j (.slice A x0.length c) (.slice A1 k c1) (.slice A2 (j - k) c2) (.slice A3 (x0.length - j) c3) x0 cs V) → Calls Tryd.prog 9 #[.slice (some ⟨V.heap.size, 0, none⟩) 1 1] (V.alloc (.cells #[.slice (some ⟨g, 0, none⟩) x0.length (x0.length + 8)] 22)).drew fun e V' => e = .returned (.agg cs.toArray) ∧ (V'.rangeAt B 0 cs ∧ TS w g B k j (.slice A x0.length c) (.slice A1 k c1) (.slice A2 (j - k) c2) (.slice A3 (x0.length - j) c3) x0 cs V')) := fun V hV => C1.out V.drew (up hV.2.drew)
    have C2 : Hid (∀ V, (V.rangeAt B 0 cs ∧ TS w g B k j (.slice A x0.length c) (.slice A1 k c1) (.slice A2 (j - k) c2) (.slice A3 (x0.length - j) c3) x0 cs V) → Calls Tryd.prog 9 #[.slice (some ⟨V.heap.size, 0, none⟩) 4 4] (V.alloc (.cells #[.slice A1 k c1, .slice A2 (j - k) c2, .slice none 0 0, .slice A3 (x0.length - j) c3] 22)) fun e V' => e = .returned (.agg cs.toArray) ∧ (V'.rangeAt B 0 cs ∧ TS w g B k j (.slice A x0.length c) (.slice A1 k c1) (.slice A2 (j - k) c2) (.slice A3 (x0.length - j) c3) x0 cs V')) := fun V hV => (of_any _ [x0.take k, (x0.drop k).take (j - k), [], x0.drop j] _ (rs_four hV.2.r1 hV.2.r2 (Rd.nil V) hV.2.r3) (by rw [cut_four x0 hkj]; omega) (by simp) (hV.2.salts.alloc _)).mono fun e V' ⟨he, hb⟩ => ⟨by rw [he, cut_four x0 hkj, arr], up ((hV.2.alloc _).on hb)⟩
    have C2d : Hid (∀ V, (V.rangeAt B 0 cs ∧ TS w g B k j (.slice A x0.length c) (.slice A1 k c1) (.slice A2 (j - k) c2) (.slice A3 (x0.length - j) c3) x0 cs V) → Calls Tryd.prog 9 #[.slice (some ⟨V.heap.size, 0, none⟩) 4 4] (V.alloc (.cells #[.slice A1 k c1, .slice A2 (j - k) c2, .slice none 0 0, .slice A3 (x0.length - j) c3] 22)).drew fun e V' => e = .returned (.agg cs.toArray) ∧ (V'.rangeAt B 0 cs ∧ TS w g B k j (.slice A x0.length c) (.slice A1 k c1) (.slice A2 (j - k) c2) (.slice A3 (x0.length - j) c3) x0 cs V')) := fun V hV => C2.out V.drew (up hV.2.drew)
    have C3 : Hid (∀ V, (V.rangeAt B 0 cs ∧ TS w g B k j (.slice A x0.length c) (.slice A1 k c1) (.slice A2 (j - k) c2) (.slice A3 (x0.length - j) c3) x0 cs V) → Calls Tryd.prog 10 #[.slice (some ⟨g, 0, none⟩) x0.length (x0.length + 8), .slice A x0.length c] V fun e V' => e = .returned (.bool true) ∧ (V'.rangeAt B 0 cs ∧ TS w g B k j (.slice A x0.length c) (.slice A1 k c1) (.slice A2 (j - k) c2) (.slice A3 (x0.length - j) c3) x0 cs V')) := fun V hV => (kept_any g _ x0 V hV.2.lent hV.2.b (by omega)).mono fun e V' ⟨he, n, hn⟩ => ⟨he, up (hn ▸ hV.2.drewN n)⟩
    have C4 : Hid (∀ V, (V.rangeAt B 0 cs ∧ TS w g B k j (.slice A x0.length c) (.slice A1 k c1) (.slice A2 (j - k) c2) (.slice A3 (x0.length - j) c3) x0 cs V) → Calls Tryd.prog 11 #[.agg cs.toArray] V fun e V' => e = .returned (.int .u64 (numB ((shaB x0).take 8) : Nat)) ∧ (V'.rangeAt B 0 cs ∧ TS w g B k j (.slice A x0.length c) (.slice A1 k c1) (.slice A2 (j - k) c2) (.slice A3 (x0.length - j) c3) x0 cs V')) := fun V hV => arr ▸ (short_any (shaB x0) V (shaB_length _)).mono fun e V' ⟨he, hb⟩ => ⟨he, up (hV.2.on hb)⟩
    have C5 : Hid (∀ V, (V.rangeAt B 0 cs ∧ TS w g B k j (.slice A x0.length c) (.slice A1 k c1) (.slice A2 (j - k) c2) (.slice A3 (x0.length - j) c3) x0 cs V) → Calls Tryd.prog 12 #[.slice (some ⟨B, 0, none⟩) 8 32] V fun e V' => e = .returned (.int .u64 (numB ((shaB x0).take 8) : Nat)) ∧ (V'.rangeAt B 0 cs ∧ TS w g B k j (.slice A x0.length c) (.slice A1 k c1) (.slice A2 (j - k) c2) (.slice A3 (x0.length - j) c3) x0 cs V')) := fun V hV => (number_any _ ((shaB x0).take 8) V (Blk.rd (hcs ▸ hV.2.blk) 8 32 (by rw [shaB_length]; omega) (by omega) (by unfold maxLen; omega)) (by rw [List.length_take, shaB_length]; omega)).mono fun e V' ⟨he, hw⟩ => ⟨he, hw ▸ hV⟩
    have C6 : Hid (∀ V, (V.rangeAt B 0 cs ∧ TS w g B k j (.slice A x0.length c) (.slice A1 k c1) (.slice A2 (j - k) c2) (.slice A3 (x0.length - j) c3) x0 cs V) → Calls Tryd.prog 5 #[] V fun e V' => e = .returned (.bool true) ∧ (V'.rangeAt B 0 cs ∧ TS w g B k j (.slice A x0.length c) (.slice A1 k c1) (.slice A2 (j - k) c2) (.slice A3 (x0.length - j) c3) x0 cs V')) := fun V hV => (shaAwake_any V hV.2.salts).mono fun e V' ⟨he, hb⟩ => ⟨he, up (hV.2.on hb)⟩
    have HHB := Lib.hid hB
    have HCS := Lib.hid hcs
    obtain ⟨N, hN⟩ : ∃ N : Nat, N = numB ((shaB x0).take 8) := ⟨_, rfl⟩
    rw [← hN] at C4 C5
    have hS0 := up TS0
    clear hb3 hs3 D3 hrd r1 r2 r3 hB hcs arr hN TS0
    go_wp2_with (fail)
    refine wp_region_held_drew (S := (fun V => V.rangeAt B 0 cs ∧ TS w g B k j (.slice A x0.length c) (.slice A1 k c1) (.slice A2 (j - k) c2) (.slice A3 (x0.length - j) c3) x0 cs V)) (by kernel_rfl) ?_ (fun hHeld => ?_)
    · (first | assumption | exact up (TS.alloc (dn (by assumption)) _) | exact up (TS.drew (dn (by assumption))) | exact up (TS.drew (TS.alloc (dn (by assumption)) _)) | exact up (TS.alloc (TS.drew (dn (by assumption))) _))
    refine take_put (i := 0) (oi := _) (v := ?_) 33 rfl rfl (by kernel_rfl) (by kernel_rfl) (by kernel_rfl) (fun _ _ _ h => h) (Or.inl ⟨by rfl, ?hy0⟩) (by assumption) ?_
    case hy0 => ((intro W hSw); (try dsimp only at hSw); go_simp; try (with_reducible rfl))
    simp only [List.set_cons_zero, List.set_cons_succ]
    refine take_put (i := 3) (oi := _) (v := _) 36 rfl rfl (by kernel_rfl) (by kernel_rfl) (by kernel_rfl) (fun _ _ _ h => h) (yieldsIf_load_mid (by rfl) _ _ rfl B 0 rfl cs _ (fun _ h => h.1) hu rfl hsi) (by assumption) ?_
    simp only [List.set_cons_zero, List.set_cons_succ]
    refine wpAnyH_ready (rs := [1]) (by kernel_rfl) (by simp) ?_
    refine AllReadyH.cons (o := _) rfl (fun K hK => ?_) AllReadyH.nil
    go_simp
    refine hK.out _ _ ?_ (fun hHeld => ?_)
    · (first | assumption | exact up (TS.alloc (dn (by assumption)) _) | exact up (TS.drew (dn (by assumption))) | exact up (TS.drew (TS.alloc (dn (by assumption)) _)) | exact up (TS.alloc (TS.drew (dn (by assumption))) _))
    clear hK K
    try simp only [Act.put, List.setIfInBounds_toArray, List.set_cons_zero, List.set_cons_succ]
    refine wpAnyH_ready (rs := [2]) (by kernel_rfl) (by simp) ?_
    refine AllReadyH.cons (o := _) rfl (fun K hK => ?_) AllReadyH.nil
    go_simp
    first | (with_reducible refine (C1.out _ ?_).mono ?_; (first | assumption | exact up (TS.alloc (dn (by assumption)) _) | exact up (TS.drew (dn (by assumption))) | exact up (TS.drew (TS.alloc (dn (by assumption)) _)) | exact up (TS.alloc (TS.drew (dn (by assumption))) _)); rintro e v1 ⟨rfl, sv1⟩) | (with_reducible refine (C1d.out _ ?_).mono ?_; (first | assumption | exact up (TS.alloc (dn (by assumption)) _) | exact up (TS.drew (dn (by assumption))) | exact up (TS.drew (TS.alloc (dn (by assumption)) _)) | exact up (TS.alloc (TS.drew (dn (by assumption))) _)); rintro e v1 ⟨rfl, sv1⟩)
    refine hK.out _ _ ?_ (fun hHeld => ?_)
    · (first | assumption | exact up (TS.alloc (dn (by assumption)) _) | exact up (TS.drew (dn (by assumption))) | exact up (TS.drew (TS.alloc (dn (by assumption)) _)) | exact up (TS.alloc (TS.drew (dn (by assumption))) _))
    clear hK K
    try simp only [Act.put, List.setIfInBounds_toArray, List.set_cons_zero, List.set_cons_succ]
    refine take_put (i := 4) (oi := _) (v := ?_) 37 rfl rfl (by kernel_rfl) (by kernel_rfl) (by kernel_rfl) (fun _ _ _ h => h) (Or.inl ⟨by rfl, ?hy4⟩) (by assumption) ?_
    case hy4 => ((intro W hSw); (try dsimp only at hSw); go_simp; try (with_reducible rfl))
    simp only [List.set_cons_zero, List.set_cons_succ]
    refine take_put (i := 5) (oi := _) (v := ?_) 38 rfl rfl (by kernel_rfl) (by kernel_rfl) (by kernel_rfl) (fun _ _ _ h => h) (Or.inl ⟨by rfl, ?hy5⟩) (by assumption) ?_
    case hy5 => ((intro W hSw); (try dsimp only at hSw); go_simp; try (with_reducible rfl))
    simp only [List.set_cons_zero, List.set_cons_succ]
    refine take_put (i := 6) (oi := _) (v := ?_) 39 rfl rfl (by kernel_rfl) (by kernel_rfl) (by kernel_rfl) (fun _ _ _ h => h) (Or.inl ⟨by rfl, ?hy6⟩) (by assumption) ?_
    case hy6 => ((intro W hSw); (try dsimp only at hSw); go_simp; try (with_reducible rfl))
    simp only [List.set_cons_zero, List.set_cons_succ]
    refine take_put (i := 7) (oi := _) (v := ?_) 40 rfl rfl (by kernel_rfl) (by kernel_rfl) (by kernel_rfl) (fun _ _ _ h => h) (Or.inl ⟨by rfl, ?hy7⟩) (by assumption) ?_
    case hy7 => ((intro W hSw); (try dsimp only at hSw); go_simp; try (with_reducible rfl))
    simp only [List.set_cons_zero, List.set_cons_succ]
    refine take_put (i := 8) (oi := _) (v := ?_) 41 rfl rfl (by kernel_rfl) (by kernel_rfl) (by kernel_rfl) (fun _ _ _ h => h) (Or.inl ⟨by rfl, ?hy8⟩) (by assumption) ?_
    case hy8 => ((intro W hSw); (try dsimp only at hSw); go_simp; try (with_reducible rfl))
    simp only [List.set_cons_zero, List.set_cons_succ]
    refine take_put (i := 9) (oi := _) (v := ?_) 42 rfl rfl (by kernel_rfl) (by kernel_rfl) (by kernel_rfl) (fun _ _ _ h => h) (Or.inl ⟨by rfl, ?hy9⟩) (by assumption) ?_
    case hy9 => ((intro W hSw); (try dsimp only at hSw); go_simp; try (with_reducible rfl))
    simp only [List.set_cons_zero, List.set_cons_succ]
    refine take_put (i := 10) (oi := _) (v := ?_) 43 rfl rfl (by kernel_rfl) (by kernel_rfl) (by kernel_rfl) (fun _ _ _ h => h) (Or.inl ⟨by rfl, ?hy10⟩) (by assumption) ?_
    case hy10 => ((intro W hSw); (try dsimp only at hSw); go_simp; try (with_reducible rfl))
    simp only [List.set_cons_zero, List.set_cons_succ]
    refine take_put (i := 11) (oi := _) (v := ?_) 44 rfl rfl (by kernel_rfl) (by kernel_rfl) (by kernel_rfl) (fun _ _ _ h => h) (Or.inl ⟨by rfl, ?hy11⟩) (by assumption) ?_
    case hy11 => ((intro W hSw); (try dsimp only at hSw); go_simp; try (with_reducible rfl))
    simp only [List.set_cons_zero, List.set_cons_succ]
    refine take_put (i := 12) (oi := _) (v := ?_) 45 rfl rfl (by kernel_rfl) (by kernel_rfl) (by kernel_rfl) (fun _ _ _ h => h) (Or.inl ⟨by rfl, ?hy12⟩) (by assumption) ?_
    case hy12 => ((intro W hSw); (try dsimp only at hSw); go_simp; try (with_reducible rfl))
    simp only [List.set_cons_zero, List.set_cons_succ]
    refine take_put (i := 13) (oi := _) (v := ?_) 46 rfl rfl (by kernel_rfl) (by kernel_rfl) (by kernel_rfl) (fun _ _ _ h => h) (Or.inl ⟨by rfl, ?hy13⟩) (by assumption) ?_
    case hy13 => ((intro W hSw); (try dsimp only at hSw); go_simp; try (with_reducible rfl))
    simp only [List.set_cons_zero, List.set_cons_succ]
    refine take_put (i := 14) (oi := _) (v := ?_) 47 rfl rfl (by kernel_rfl) (by kernel_rfl) (by kernel_rfl) (fun _ _ _ h => h) (Or.inl ⟨by rfl, ?hy14⟩) (by assumption) ?_
    case hy14 => ((intro W hSw); (try dsimp only at hSw); go_simp; try (with_reducible rfl))
    simp only [List.set_cons_zero, List.set_cons_succ]
    refine take_put (i := 15) (oi := _) (v := ?_) 48 rfl rfl (by kernel_rfl) (by kernel_rfl) (by kernel_rfl) (fun _ _ _ h => h) (Or.inl ⟨by rfl, ?hy15⟩) (by assumption) ?_
    case hy15 => ((intro W hSw); (try dsimp only at hSw); go_simp; try (with_reducible rfl))
    simp only [List.set_cons_zero, List.set_cons_succ]
    refine take_put (i := 18) (oi := _) (v := _) 51 rfl rfl (by kernel_rfl) (by kernel_rfl) (by kernel_rfl) (fun _ _ _ h => h) (yieldsIf_load_mid (by rfl) _ _ rfl B 0 rfl cs _ (fun _ h => h.1) hu rfl hsi) (by assumption) ?_
    simp only [List.set_cons_zero, List.set_cons_succ]
    refine wpAnyH_ready (rs := [16]) (by kernel_rfl) (by simp) ?_
    refine AllReadyH.cons (o := _) rfl (fun K hK => ?_) AllReadyH.nil
    go_simp
    refine hK.out _ _ ?_ (fun hHeld => ?_)
    · (first | assumption | exact up (TS.alloc (dn (by assumption)) _) | exact up (TS.drew (dn (by assumption))) | exact up (TS.drew (TS.alloc (dn (by assumption)) _)) | exact up (TS.alloc (TS.drew (dn (by assumption))) _))
    clear hK K
    try simp only [Act.put, List.setIfInBounds_toArray, List.set_cons_zero, List.set_cons_succ]
    refine wpAnyH_ready (rs := [17]) (by kernel_rfl) (by simp) ?_
    refine AllReadyH.cons (o := _) rfl (fun K hK => ?_) AllReadyH.nil
    go_simp
    first | (with_reducible refine (C2.out _ ?_).mono ?_; (first | assumption | exact up (TS.alloc (dn (by assumption)) _) | exact up (TS.drew (dn (by assumption))) | exact up (TS.drew (TS.alloc (dn (by assumption)) _)) | exact up (TS.alloc (TS.drew (dn (by assumption))) _)); rintro e v2 ⟨rfl, sv2⟩) | (with_reducible refine (C2d.out _ ?_).mono ?_; (first | assumption | exact up (TS.alloc (dn (by assumption)) _) | exact up (TS.drew (dn (by assumption))) | exact up (TS.drew (TS.alloc (dn (by assumption)) _)) | exact up (TS.alloc (TS.drew (dn (by assumption))) _)); rintro e v2 ⟨rfl, sv2⟩)
    refine hK.out _ _ ?_ (fun hHeld => ?_)
    · (first | assumption | exact up (TS.alloc (dn (by assumption)) _) | exact up (TS.drew (dn (by assumption))) | exact up (TS.drew (TS.alloc (dn (by assumption)) _)) | exact up (TS.alloc (TS.drew (dn (by assumption))) _))
    clear hK K
    try simp only [Act.put, List.setIfInBounds_toArray, List.set_cons_zero, List.set_cons_succ]
    refine take_put (i := 19) (oi := _) (v := ?_) 52 rfl rfl (by kernel_rfl) (by kernel_rfl) (by kernel_rfl) (fun _ _ _ h => h) (Or.inl ⟨by rfl, ?hy19⟩) (by assumption) ?_
    case hy19 => ((intro W hSw); (try dsimp only at hSw); go_simp; try (with_reducible rfl))
    simp only [List.set_cons_zero, List.set_cons_succ]
    refine take_put (i := 20) (oi := _) (v := ?_) 53 rfl rfl (by kernel_rfl) (by kernel_rfl) (by kernel_rfl) (fun _ _ _ h => h) (Or.inl ⟨by rfl, ?hy20⟩) (by assumption) ?_
    case hy20 => ((intro W hSw); (try dsimp only at hSw); go_simp; try (with_reducible rfl))
    simp only [List.set_cons_zero, List.set_cons_succ]
    refine take_put (i := 21) (oi := _) (v := ?_) 54 rfl rfl (by kernel_rfl) (by kernel_rfl) (by kernel_rfl) (fun _ _ _ h => h) (Or.inl ⟨by rfl, ?hy21⟩) (by assumption) ?_
    case hy21 => ((intro W hSw); (try dsimp only at hSw); go_simp; try (with_reducible rfl))
    simp only [List.set_cons_zero, List.set_cons_succ]
    refine take_put (i := 22) (oi := _) (v := ?_) 55 rfl rfl (by kernel_rfl) (by kernel_rfl) (by kernel_rfl) (fun _ _ _ h => h) (Or.inl ⟨by rfl, ?hy22⟩) (by assumption) ?_
    case hy22 => ((intro W hSw); (try dsimp only at hSw); go_simp; try (with_reducible rfl))
    simp only [List.set_cons_zero, List.set_cons_succ]
    refine take_put (i := 23) (oi := _) (v := ?_) 56 rfl rfl (by kernel_rfl) (by kernel_rfl) (by kernel_rfl) (fun _ _ _ h => h) (Or.inl ⟨by rfl, ?hy23⟩) (by assumption) ?_
    case hy23 => ((intro W hSw); (try dsimp only at hSw); go_simp; try (with_reducible rfl))
    simp only [List.set_cons_zero, List.set_cons_succ]
    refine wpAnyH_ready (rs := [24]) (by kernel_rfl) (by simp) ?_
    refine AllReadyH.cons (o := _) rfl (fun K hK => ?_) AllReadyH.nil
    go_simp
    (with_reducible refine (C3.out _ ?_).mono ?_; (first | assumption | exact up (TS.alloc (dn (by assumption)) _) | exact up (TS.drew (dn (by assumption))) | exact up (TS.drew (TS.alloc (dn (by assumption)) _)) | exact up (TS.alloc (TS.drew (dn (by assumption))) _)); rintro e v3 ⟨rfl, sv3⟩)
    refine hK.out _ _ ?_ (fun hHeld => ?_)
    · (first | assumption | exact up (TS.alloc (dn (by assumption)) _) | exact up (TS.drew (dn (by assumption))) | exact up (TS.drew (TS.alloc (dn (by assumption)) _)) | exact up (TS.alloc (TS.drew (dn (by assumption))) _))
    clear hK K
    try simp only [Act.put, List.setIfInBounds_toArray, List.set_cons_zero, List.set_cons_succ]
    refine take_put (i := 25) (oi := _) (v := ?_) 58 rfl rfl (by kernel_rfl) (by kernel_rfl) (by kernel_rfl) (fun _ _ _ h => h) (Or.inl ⟨by rfl, ?hy25⟩) (by assumption) ?_
    case hy25 => ((intro W hSw); (try dsimp only at hSw); go_simp; try (with_reducible rfl))
    simp only [List.set_cons_zero, List.set_cons_succ]
    refine take_put (i := 26) (oi := _) (v := ?_) 59 rfl rfl (by kernel_rfl) (by kernel_rfl) (by kernel_rfl) (fun _ _ _ h => h) (Or.inl ⟨by rfl, ?hy26⟩) (by assumption) ?_
    case hy26 => ((intro W hSw); (try dsimp only at hSw); go_simp; try (with_reducible rfl))
    simp only [List.set_cons_zero, List.set_cons_succ]
    refine take_put (i := 27) (oi := _) (v := _) 60 rfl rfl (by kernel_rfl) (by kernel_rfl) (by kernel_rfl) (fun _ _ _ h => h) (yieldsIf_load_mid (by rfl) _ _ rfl B 0 rfl cs _ (fun _ h => h.1) hu rfl hsi) (by assumption) ?_
    simp only [List.set_cons_zero, List.set_cons_succ]
    refine take_put (i := 29) (oi := _) (v := ?_) 62 rfl rfl (by kernel_rfl) (by kernel_rfl) (by kernel_rfl) (fun _ _ _ h => h) (Or.inl ⟨by rfl, ?hy29⟩) (by assumption) ?_
    case hy29 => ((intro W hSw); (try dsimp only at hSw); go_simp; try (with_reducible rfl))
    simp only [List.set_cons_zero, List.set_cons_succ]
    refine wpAnyH_ready (rs := [28]) (by kernel_rfl) (by simp) ?_
    refine AllReadyH.cons (o := _) rfl (fun K hK => ?_) AllReadyH.nil
    go_simp
    (with_reducible refine (C4.out _ ?_).mono ?_; (first | assumption | exact up (TS.alloc (dn (by assumption)) _) | exact up (TS.drew (dn (by assumption))) | exact up (TS.drew (TS.alloc (dn (by assumption)) _)) | exact up (TS.alloc (TS.drew (dn (by assumption))) _)); rintro e v4 ⟨rfl, sv4⟩)
    refine hK.out _ _ ?_ (fun hHeld => ?_)
    · (first | assumption | exact up (TS.alloc (dn (by assumption)) _) | exact up (TS.drew (dn (by assumption))) | exact up (TS.drew (TS.alloc (dn (by assumption)) _)) | exact up (TS.alloc (TS.drew (dn (by assumption))) _))
    clear hK K
    try simp only [Act.put, List.setIfInBounds_toArray, List.set_cons_zero, List.set_cons_succ]
    refine wpAnyH_ready (rs := [30]) (by kernel_rfl) (by simp) ?_
    refine AllReadyH.cons (o := _) rfl (fun K hK => ?_) AllReadyH.nil
    go_simp
    (with_reducible refine (C5.out _ ?_).mono ?_; (first | assumption | exact up (TS.alloc (dn (by assumption)) _) | exact up (TS.drew (dn (by assumption))) | exact up (TS.drew (TS.alloc (dn (by assumption)) _)) | exact up (TS.alloc (TS.drew (dn (by assumption))) _)); rintro e v5 ⟨rfl, sv5⟩)
    refine hK.out _ _ ?_ (fun hHeld => ?_)
    · (first | assumption | exact up (TS.alloc (dn (by assumption)) _) | exact up (TS.drew (dn (by assumption))) | exact up (TS.drew (TS.alloc (dn (by assumption)) _)) | exact up (TS.alloc (TS.drew (dn (by assumption))) _))
    clear hK K
    try simp only [Act.put, List.setIfInBounds_toArray, List.set_cons_zero, List.set_cons_succ]
    refine take_put (i := 31) (oi := _) (v := ?_) 64 rfl rfl (by kernel_rfl) (by kernel_rfl) (by kernel_rfl) (fun _ _ _ h => h) (Or.inl ⟨by rfl, ?hy31⟩) (by assumption) ?_
    case hy31 => ((intro W hSw); (try dsimp only at hSw); go_simp; try (with_reducible rfl))
    simp only [List.set_cons_zero, List.set_cons_succ]
    refine take_put (i := 32) (oi := _) (v := ?_) 65 rfl rfl (by kernel_rfl) (by kernel_rfl) (by kernel_rfl) (fun _ _ _ h => h) (Or.inl ⟨by rfl, ?hy32⟩) (by assumption) ?_
    case hy32 => ((intro W hSw); (try dsimp only at hSw); go_simp; try (with_reducible rfl))
    simp only [List.set_cons_zero, List.set_cons_succ]
    refine take_put (i := 33) (oi := _) (v := ?_) 66 rfl rfl (by kernel_rfl) (by kernel_rfl) (by kernel_rfl) (fun _ _ _ h => h) (Or.inl ⟨by rfl, ?hy33⟩) (by assumption) ?_
    case hy33 => ((intro W hSw); (try dsimp only at hSw); go_simp; try (with_reducible rfl))
    simp only [List.set_cons_zero, List.set_cons_succ]
    refine wpAnyH_ready (rs := [34]) (by kernel_rfl) (by simp) ?_
    refine AllReadyH.cons (o := _) rfl (fun K hK => ?_) AllReadyH.nil
    go_simp
    (with_reducible refine (C6.out _ ?_).mono ?_; (first | assumption | exact up (TS.alloc (dn (by assumption)) _) | exact up (TS.drew (dn (by assumption))) | exact up (TS.drew (TS.alloc (dn (by assumption)) _)) | exact up (TS.alloc (TS.drew (dn (by assumption))) _)); rintro e v6 ⟨rfl, sv6⟩)
    refine hK.out _ _ ?_ (fun hHeld => ?_)
    · (first | assumption | exact up (TS.alloc (dn (by assumption)) _) | exact up (TS.drew (dn (by assumption))) | exact up (TS.drew (TS.alloc (dn (by assumption)) _)) | exact up (TS.alloc (TS.drew (dn (by assumption))) _))
    clear hK K
    try simp only [Act.put, List.setIfInBounds_toArray, List.set_cons_zero, List.set_cons_succ]
    refine take_put (i := 35) (oi := _) (v := ?_) 68 rfl rfl (by kernel_rfl) (by kernel_rfl) (by kernel_rfl) (fun _ _ _ h => h) (Or.inl ⟨by rfl, ?hy35⟩) (by assumption) ?_
    case hy35 => ((intro W hSw); (try dsimp only at hSw); go_simp; try (with_reducible rfl))
    simp only [List.set_cons_zero, List.set_cons_succ]
    refine take_put (i := 36) (oi := _) (v := ?_) 6 rfl rfl (by kernel_rfl) (by kernel_rfl) (by kernel_rfl) (fun _ _ _ h => h) (Or.inl ⟨by rfl, ?hy36⟩) (by assumption) ?_
    case hy36 => ((intro W hSw); (try dsimp only at hSw); go_simp; try (with_reducible rfl))
    simp only [List.set_cons_zero, List.set_cons_succ]
    refine wpAnyH_done (by kernel_rfl) ?_ _
    go_wp2_with (fail)
    go_ret
    exact ⟨rfl, hHeld.2.below⟩
  · obtain ⟨A, c, rfl, hc1, hc2, _⟩ := h0.form
    unfold maxLen at hc2
    have HA := Lib.hid fun W hW => shaAwake_any W hW
    have HK := Lib.hid hk
    have lI : (300 : Int) < (x0.length : Int) := by omega
    clear h0 hk hl
    go_enter Tryd.func3, Tryd.ntmps3
    go_wp2_with (fail)
    refine (HA.out _ HK.out).mono ?_
    rintro e w1 ⟨rfl, hb⟩
    go_wp2_with (fail)
    go_ret
    exact ⟨rfl, hb⟩

theorem own : ownKnob Tryd.prog.godebug = none := by kernel_rfl
theorem laidOut : laidOutB Tryd.prog = true := by kernel_rfl

set_option maxRecDepth 100000 in
theorem lifted (os : Os) (started : os.Started) (H : Type) (enc : TypeId × Value → H) :
    ReturnsInHanded {} Tryd.checked os 3 .any (fun w args => (Rows.shaSumsSpec.pre enc Tryd.prog Tryd.f3 Rows.shaSumsRow.domain false w args ∧ laidMetH Tryd.prog saltsLaid w) ∧ sizedMet enc Tryd.prog Tryd.f3 (OpenSpec.ofChange Rows.shaSumsSpec) false w args) (Rows.shaSumsSpec.post enc Tryd.prog Tryd.f3 false true false false) := by
  refine returnsInHanded_of_change_and (C := Tryd.checked) (X := fun w _ => laidMetH Tryd.prog saltsLaid w) (fun _ _ _ hh h => h.of_heap hh) own started (by kernel_rfl) Tryd.func3
    (ChangeSpec.witness_shaped (enc := enc) (C := Tryd.checked) (os := os) (X := fun w _ => laidMetH Tryd.prog saltsLaid w) false (World.doorLaid Tryd.prog 400 os) #[.slice none 0 0, .int .i64 0, .int .i64 0] 8 rfl (World.shaped_of_RefB (by kernel_rfl) (by kernel_rfl)) (by kernel_rfl) (by kernel_rfl) (by kernel_rfl) (door_met os _)) ?_
  intro W base args ds gs before hval0 hW _ _ hL _
  have hval : ∀ (j : Nat) t v, Tryd.f3.params[j]? = some t → args[j]? = some v → Value.okWide Tryd.prog W .any base t v := hval0
  have hW' := hW
  obtain ⟨p, q, hA0, hV, rfl, hfz, hnd⟩ := hW
  have hA : DataW.TrodAll enc Tryd.prog W 0 (fun _ => true) true Tryd.f3.params.toList args.toList ds p := hA0
  rw [Tryd.params3] at hA hval
  obtain ⟨v0, vs0, dd0, ds0, p0, q0, hargs, rfl, rfl, h0, r0⟩ := trodAll_cons hA
  obtain ⟨v1, vs1, dd1, ds1, p1, q1, rfl, rfl, rfl, h1, r1⟩ := trodAll_cons r0
  obtain ⟨v2, vs2, dd2, ds2, p2, q2, rfl, rfl, rfl, h2, r2⟩ := trodAll_cons r1
  obtain ⟨rfl, rfl, rfl⟩ := trodAll_nil r2
  obtain rfl : args = #[v0, v1, v2] := by cases args; simp_all
  obtain ⟨rfl, rfl⟩ := trodVars_none hV
  obtain ⟨A0, n0, c0, rfl⟩ := okWide_slice Tryd.underlying22 (hval 0 22 v0 rfl rfl)
  have g0 := h0
  have lt0 : ∀ x ∈ p0, x.block < W.heap.size := by obtain ⟨m, hm⟩ := g0; exact DataW.trod_lt m _ _ _ hm
  obtain ⟨x0, k0⟩ : ∃ xs, Rd W (.slice A0 n0 c0) xs := by
    obtain ⟨fuel, hf⟩ := h0
    rcases open_ints Tryd.underlying22 Tryd.underlying5 (by kernel_rfl) hf with ⟨hcs, _⟩ | ⟨x, l, c, zs, hcs, _, hl, hm, hz, _, hcell, hwz⟩
    · simp [Value.cells] at hcs
      obtain ⟨rfl, rfl, rfl⟩ := hcs
      exact ⟨[], Rd.nil W⟩
    · simp [Value.cells] at hcs
      obtain ⟨rfl, rfl, rfl⟩ := hcs
      exact rd_of_row hl hm (by simpa using hz) hcell hwz
  obtain ⟨a1, rfl, rfl, rfl, k1⟩ := open_int Tryd.underlying3 (hval 1 3 v1 rfl rfl) h1
  obtain ⟨a2, rfl, rfl, rfl, k2⟩ := open_int Tryd.underlying3 (hval 2 3 v2 rfl rfl) h2
  clear hA0 hval0
  refine (walk _ x0 a1 a2 W k0 k1 k2 (salts_of_laid hL)).mono fun e W' ⟨he, bel⟩ => ?_
  subst he
  exact ⟨_, rfl, _, _, _, [], _, [], hW', trodAll_mk1 (shut_bool Tryd.underlying4 _), (trodAll_cons_mk (Below.trod laidOut (by kernel_rfl) (of_decide_eq_true (by kernel_rfl)) g0 bel lt0) (trodAll_cons_mk (shut_int Tryd.underlying3 k1) (trodAll_cons_mk (shut_int Tryd.underlying3 k2) trodAll_mk0))), rfl, bel.frame _, fun h => by cases h⟩

theorem over : Rows.shaSumsRow.holds Tryd.pinned (OpenSpec.ofChange Rows.shaSumsSpec) :=
  OpenClaim.holds_of_wide 3 Tryd.f3 rfl rfl rfl rfl rfl rfl rfl ⟨rfl, rfl, rfl, rfl, rfl⟩ rfl rfl rfl rfl rfl (by kernel_rfl) Tryd.func3 (by kernel_rfl)
    (of_decide_eq_true (by kernel_rfl)) (by unfold Func.isWrapper; first | (rw [if_pos (by decide +kernel)]; kernel_rfl) | (rw [if_neg (by decide +kernel)]; exact ⟨rfl, rfl⟩))
    (fun os started H enc _ => lifted os started H enc)

theorem proved : Rows.ShaSumsCardSaid :=
  Claim7.holds_tied_plain_at .later [] [.data] true Rows.shaSumsCard.stood.harness false
    over (fun _ h => by cases h) (by kernel_rfl) (fun _ h => by cases h) shaSums_row_tie rfl ⟨rfl, rfl⟩ (by kernel_rfl) rfl
    (fun f fn hf hfn => by
      obtain rfl : f = 3 := Option.some.inj ((show Tryd.prog.funcNamed Rows.shaSumsRow.func = some 3 by kernel_rfl).symm.trans hf) |>.symm
      obtain rfl : fn = Tryd.f3 := (Option.some.inj (Tryd.func3.symm.trans hfn)).symm
      exact ⟨by kernel_rfl, fun j t ht => by
        rw [Tryd.params3] at ht
        have hm := List.mem_of_getElem? (l := [22, 3, 3]) (by simpa using ht)
        simp only [List.mem_cons, List.not_mem_nil, or_false] at hm
        rcases hm with rfl | rfl | rfl
        · exact (show Tryd.prog.wantsStandIn 22 = false by kernel_rfl)
        · exact (show Tryd.prog.wantsStandIn 3 = false by kernel_rfl)
        · exact (show Tryd.prog.wantsStandIn 3 = false by kernel_rfl)⟩)
    (by kernel_rfl)
#print axioms proved
end Go.Proofs.YtjinhgomhdlboaaDoor.shaSums
