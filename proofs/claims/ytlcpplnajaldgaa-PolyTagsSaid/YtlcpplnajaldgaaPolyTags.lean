/- What is proved: 'PolyTags' (law 5) returns true whatever comes in: the tag of any bytes by any key is the document's, however they are cut; they stay; the arguments read afterwards as before.
   Conditions: none of its own. -/
import Derived.Test.YtlcpplnajaldgaaPTag
import Derived.Test.YtlcpplnajaldgaaRTag
import Derived.Test.YtlcpplnajaldgaaLent
import Derived.Test.YtlcpplnajaldgaaPick
import Derived.Test.YtlcpplnajaldgaaArrAll
import Derived.Test.YtlcpplnajaldgaaArrIn
import Derived.ProofKit
import Derived.OpenShut
import Derived.Carry
import Derived.Deep.Cut
namespace Go.Proofs.Ytlcpplnajaldgaa.polyTags
open Go.ChangeShapes Go.WideShapes Go.ChangeAt Go.RowKit

theorem pick_any' (k N : Int) (n : Nat) (w : World) (hN : N = (n : Int)) (hk : (Lit.int .i64 k).wf = true) (hn : 1 ≤ n) (hn2 : n ≤ 1000000) :
    Calls Try.prog 10 #[.int .i64 k, .int .i64 N] w fun e w' => (∃ m : Nat, e = .returned (.int .i64 (m : Int)) ∧ m < n) ∧ w = w' := hN ▸ pick_any k n w hk hn hn2
/-- What the last statement leans on. -/
structure TS (w : World) (g KB B k : Nat) (v0 v1 v3 : Value) (x0 : List UInt8) (kcs cs : List Value) (V : World) : Prop where
  lent : LentAt V g x0
  b : Rd V v0 x0
  r1 : Rd V v1 (x0.take k)
  r3 : Rd V v3 (x0.drop k)
  kb : Blk V KB 23 kcs
  blk : Blk V B 29 cs
  below : Below w.heap.size w V
section
variable {w : World} {g KB B k : Nat} {v0 v1 v3 : Value} {x0 : List UInt8} {kcs cs : List Value} {V V' : World}
theorem TS.on (h : TS w g KB B k v0 v1 v3 x0 kcs cs V) (hb : Below V.heap.size V V') : TS w g KB B k v0 v1 v3 x0 kcs cs V' :=
  ⟨h.lent.below hb, h.b.below hb, h.r1.below hb, h.r3.below hb, h.kb.below hb h.kb.lt, h.blk.below hb h.blk.lt, h.below.trans (hb.mono h.below.size)⟩
theorem TS.drewN (h : TS w g KB B k v0 v1 v3 x0 kcs cs V) (n : Nat) : TS w g KB B k v0 v1 v3 x0 kcs cs (V.drewN n) := h.on (below_drewN (Below.refl _ _) n)
theorem TS.drew (h : TS w g KB B k v0 v1 v3 x0 kcs cs V) : TS w g KB B k v0 v1 v3 x0 kcs cs V.drew := h.on (Below.refl _ _).drew
theorem TS.alloc (h : TS w g KB B k v0 v1 v3 x0 kcs cs V) (o : Obj) : TS w g KB B k v0 v1 v3 x0 kcs cs (V.alloc o) := h.on ((Below.refl _ _).alloc (Nat.le_refl _) o)
end
theorem cut_three (x : List UInt8) (k : Nat) : [x.take k, [], x.drop k].flatten = x := by
  simp only [List.flatten_cons, List.flatten_nil, List.append_nil, List.nil_append, List.take_append_drop]

set_option maxRecDepth 100000 in
set_option maxHeartbeats 2000000 in
theorem walk (x0' : List UInt8) (v0 : Value) (x0 : List UInt8) (a2 : Int) (w : World) (l0 : x0'.length = 32) (h0 : Rd w v0 x0) (k2 : (Lit.int .i64 a2).wf = true) :
    Calls Try.prog 3 #[.agg (x0'.map bv).toArray, v0, .int .i64 a2] w fun e w' => e = .returned (.bool true) ∧ Below w.heap.size w w' := by
  obtain ⟨i0, hi, hz0, hz1, hz2⟩ := info_parts info_u8
  obtain ⟨A, c, rfl, hc1, hc2, _⟩ := h0.form
  unfold maxLen at hc2
  have HR := Lib.hid h0
  have K2 := Lib.hid k2
  have HIK : Hid ((Try.prog.info? 23).map (·.size) = some 32) := by show _ = _; kernel_rfl
  have HIT : Hid ((Try.prog.info? 29).map (·.size) = some 16) := by show _ = _; kernel_rfl
  have L0 := Lib.hid l0
  obtain ⟨kcs, hkc⟩ : ∃ cs, cs = x0'.map bv := ⟨_, rfl⟩
  rw [← hkc]
  have HKC := Lib.hid hkc
  have HKM : Hid (kcs.length = 32) := by show _ = _; rw [hkc, List.length_map, l0]
  have KB0 : Hid (Blk (w.alloc (.cells kcs.toArray 23)) w.heap.size 23 kcs) := Lib.hid (Blk.made w _ _)
  have D0 : Hid (Below w.heap.size w (w.alloc (.cells kcs.toArray 23))) := Lib.hid ((Below.refl _ _).alloc (Nat.le_refl _) _)
  clear h0 k2 l0 hkc hc1
  by_cases hl : 300 < x0.length
  · have lI : (300 : Int) < (x0.length : Int) := by omega
    go_enter Try.func3, Try.ntmps3
    go_wp2_with (refine Go.Great.wpList_boxTo rfl _ _ rfl _ rfl w.heap.size rfl (kcs.toArray) rfl ?_)
    refine (polAwake_any tagc _).mono ?_
    rintro e w3 ⟨rfl, hb3⟩
    go_wp2_with (fail)
    go_ret
    exact ⟨rfl, D0.out.trans (hb3.mono D0.out.size)⟩
  have lI : (x0.length : Int) ≤ 300 := by omega
  go_enter Try.func3, Try.ntmps3
  go_wp2_with (refine Go.Great.wpList_boxTo rfl _ _ rfl _ rfl w.heap.size rfl (kcs.toArray) rfl ?_)
  refine (lent_any _ x0 _ (HR.out.below D0.out) (by omega)).mono ?_
  rintro e w1 ⟨g, rfl, hl1, hg1, hb1⟩
  have HL1 := Lib.hid hl1
  have D1 : Hid (Below w.heap.size w w1) := Lib.hid (D0.out.trans (hb1.mono D0.out.size))
  have KB1 := Lib.hid (KB0.out.below hb1 KB0.out.lt)
  clear hl1 hb1 KB0 D0
  go_wp2_with (fail)
  refine (pick_any' a2 _ (x0.length + 1) _ (by omega) K2.out (by omega) (by omega)).mono ?_
  rintro e w2 ⟨⟨k, rfl, hk⟩, rfl⟩
  have hkI : (k : Int) ≤ x0.length := by omega
  have hkl : k ≤ x0.length := by omega
  go_wp2_with (refine wpList_load_blk rfl 23 (.tmp 3) rfl w.heap.size rfl 23 kcs _ KB1.out Try.underlying23 rfl (by rw [HKM.out]; exact HIK.out) ?_)
  have HRT : Hid (∀ V, Rd V (.slice A x0.length c) x0 → Calls Try.prog 11 #[.agg kcs.toArray, .slice A x0.length c] V fun e w' => e = .returned (arrV (tagB x0' x0)) ∧ Below V.heap.size V w') := Lib.hid fun V hV => by
    rw [HKC.out]
    exact refTag_any x0' _ x0 V L0.out hV (by omega)
  refine (HRT.out _ (HR.out.below D1.out)).mono ?_
  rintro e w2 ⟨rfl, hb2⟩
  have HL2 := Lib.hid (HL1.out.below hb2)
  have D2 := Lib.hid (D1.out.trans (hb2.mono D1.out.size))
  have KB2 := Lib.hid (KB1.out.below hb2 KB1.out.lt)
  have HM := Lib.hid (Blk.made w2 29 (List.replicate 16 (Value.int .u8 0)))
  have HLB : Hid (((tagB x0' x0).map bv).length = 16) := Lib.hid (by rw [List.length_map, tagB_length])
  clear hb2
  go_wp2_with (refine wpList_store_blk rfl 29 _ _ rfl w2.heap.size 29 _ HM.out ((tagB x0' x0).map bv) rfl rfl (by rw [HLB.out]; rfl) (by rw [HLB.out]; exact HIT.out) (bv_one _) ?_; intro w3 hb3 hs3)
  have hrd := HL2.out.rd (by omega)
  obtain ⟨A1, c1, S1, r1⟩ := hrd.high (P := Try.prog) 24 5 i0 Try.underlying24 hi hz1 k (by omega)
  obtain ⟨A3, c3, S3, r3⟩ := hrd.low (P := Try.prog) 24 5 i0 Try.underlying24 hi hz1 k (by omega)
  have D3 : Below w2.heap.size w2 w3 := ((Below.refl _ _).alloc (Nat.le_refl _) _).trans hs3.below
  obtain ⟨cs, hcs⟩ : ∃ cs, cs = (tagB x0' x0).map bv := ⟨_, rfl⟩
  rw [← hcs] at hb3
  have TS0 : TS w g w.heap.size w2.heap.size k (.slice A x0.length c) (.slice A1 k c1) (.slice A3 (x0.length - k) c3) x0 kcs cs w3 :=
    ⟨HL2.out.below D3, (HR.out.below D2.out).below D3, r1.below D3, r3.below D3, KB2.out.below D3 KB2.out.lt, hb3, D2.out.trans (D3.mono D2.out.size)⟩
  have hcl : cs.length = 16 := by rw [hcs]; exact HLB.out
  obtain ⟨KB, hKB⟩ : ∃ B, B = w.heap.size := ⟨_, rfl⟩
  obtain ⟨B, hB⟩ : ∃ B, B = w2.heap.size := ⟨_, rfl⟩
  rw [← hB, ← hKB] at TS0 ⊢
  have arr : arrV (tagB x0' x0) = .agg cs.toArray := by rw [hcs]; rfl
  have hx : ∀ W, (Op.equalIn 10000 29 (.agg cs.toArray) (.agg cs.toArray)).run Try.prog W = .ok true W := fun W => by
    have h := run_equal_bytes W 29 5 16 i0 Try.underlying29 Try.underlying5 hi hz1 (tagB x0' x0) (tagB x0' x0) (tagB_length _ _) (tagB_length _ _)
    rw [← hcs] at h
    simpa [Op.equal, Op.maxDepth] using h
  have hu1 := Try.underlying23
  have hu2 := Try.underlying29
  have hsi1 : (Try.prog.info? 23).map (·.size) = some kcs.length := by rw [HKM.out]; exact HIK.out
  have hsi2 : (Try.prog.info? 29).map (·.size) = some cs.length := by rw [hcl]; exact HIT.out
  have C1 : Hid (∀ V, TS w g KB B k (.slice A x0.length c) (.slice A1 k c1) (.slice A3 (x0.length - k) c3) x0 kcs cs V → Calls Try.prog 12 #[.agg kcs.toArray, .slice (some ⟨V.heap.size, 0, none⟩) 1 1] (V.alloc (.cells #[.slice (some ⟨g, 0, none⟩) x0.length (x0.length + 8)] 24)) fun e V' => e = .returned (.agg cs.toArray) ∧ TS w g KB B k (.slice A x0.length c) (.slice A1 k c1) (.slice A3 (x0.length - k) c3) x0 kcs cs V') := Lib.hid fun V hV => by
    rw [HKC.out]
    exact (tagc x0' _ [x0] _ L0.out (.inl (rs_lit1 (hV.lent.rd (by omega)))) (by simp) (by simpa using by omega)).mono fun e V' ⟨he, hb⟩ => ⟨by rw [he, List.flatten_singleton, arr], (HKC.out ▸ hV.alloc _).on hb⟩
  have C1d : Hid (∀ V, TS w g KB B k (.slice A x0.length c) (.slice A1 k c1) (.slice A3 (x0.length - k) c3) x0 kcs cs V → Calls Try.prog 12 #[.agg kcs.toArray, .slice (some ⟨V.heap.size, 0, none⟩) 1 1] (V.alloc (.cells #[.slice (some ⟨g, 0, none⟩) x0.length (x0.length + 8)] 24)).drew fun e V' => e = .returned (.agg cs.toArray) ∧ TS w g KB B k (.slice A x0.length c) (.slice A1 k c1) (.slice A3 (x0.length - k) c3) x0 kcs cs V') := Lib.hid fun V hV => C1.out V.drew hV.drew
  have C2 : Hid (∀ V, TS w g KB B k (.slice A x0.length c) (.slice A1 k c1) (.slice A3 (x0.length - k) c3) x0 kcs cs V → Calls Try.prog 12 #[.agg kcs.toArray, .slice (some ⟨V.heap.size, 0, none⟩) 3 3] (V.alloc (.cells #[.slice A1 k c1, .slice none 0 0, .slice A3 (x0.length - k) c3] 24)) fun e V' => e = .returned (.agg cs.toArray) ∧ TS w g KB B k (.slice A x0.length c) (.slice A1 k c1) (.slice A3 (x0.length - k) c3) x0 kcs cs V') := Lib.hid fun V hV => by
    rw [HKC.out]
    exact (tagc x0' _ [x0.take k, [], x0.drop k] _ L0.out (.inl (rs_lit3 hV.r1 (Rd.nil V) hV.r3)) (by simp) (by simp only [List.mem_cons, List.not_mem_nil, or_false]; rintro xs (rfl | rfl | rfl) <;> simp <;> omega)).mono fun e V' ⟨he, hb⟩ => ⟨by rw [he, cut_three, arr], (HKC.out ▸ hV.alloc _).on hb⟩
  have C2d : Hid (∀ V, TS w g KB B k (.slice A x0.length c) (.slice A1 k c1) (.slice A3 (x0.length - k) c3) x0 kcs cs V → Calls Try.prog 12 #[.agg kcs.toArray, .slice (some ⟨V.heap.size, 0, none⟩) 3 3] (V.alloc (.cells #[.slice A1 k c1, .slice none 0 0, .slice A3 (x0.length - k) c3] 24)).drew fun e V' => e = .returned (.agg cs.toArray) ∧ TS w g KB B k (.slice A x0.length c) (.slice A1 k c1) (.slice A3 (x0.length - k) c3) x0 kcs cs V') := Lib.hid fun V hV => C2.out V.drew hV.drew
  have C3 : Hid (∀ V, TS w g KB B k (.slice A x0.length c) (.slice A1 k c1) (.slice A3 (x0.length - k) c3) x0 kcs cs V → Calls Try.prog 13 #[.slice (some ⟨g, 0, none⟩) x0.length (x0.length + 8), .slice A x0.length c] V fun e V' => e = .returned (.bool true) ∧ TS w g KB B k (.slice A x0.length c) (.slice A1 k c1) (.slice A3 (x0.length - k) c3) x0 kcs cs V') := Lib.hid fun V hV => (kept_any g _ x0 V hV.lent hV.b (by omega)).mono fun e V' ⟨he, n, hn⟩ => ⟨he, hn ▸ hV.drewN n⟩
  have C4 : Hid (∀ V, TS w g KB B k (.slice A x0.length c) (.slice A1 k c1) (.slice A3 (x0.length - k) c3) x0 kcs cs V → Calls Try.prog 8 #[] V fun e V' => e = .returned (.bool true) ∧ TS w g KB B k (.slice A x0.length c) (.slice A1 k c1) (.slice A3 (x0.length - k) c3) x0 kcs cs V') := Lib.hid fun V hV => (polAwake_any tagc V).mono fun e V' ⟨he, hb⟩ => ⟨he, hV.on hb⟩
  have E1 := Lib.hid hKB
  have E2 := Lib.hid hB
  have HCS := Lib.hid hcs
  clear hb3 hs3 D3 hrd r1 r3 hB hKB hcs arr
  go_wp2_with (fail)
  refine wp_region_held_drew (S := (fun V => TS w g KB B k (.slice A x0.length c) (.slice A1 k c1) (.slice A3 (x0.length - k) c3) x0 kcs cs V)) (by kernel_rfl) ?_ (fun hHeld => ?_)
  · (first | assumption | exact TS.drew (by assumption) | exact TS.alloc (by assumption) _ | exact TS.drew (TS.alloc (by assumption) _) | exact TS.alloc (TS.drew (by assumption)) _)
  refine take_put (i := 0) (oi := _) (v := _) 24 rfl rfl (by kernel_rfl) (by kernel_rfl) (by kernel_rfl) (fun _ _ _ h => h) (yieldsIf_load_mid (by rfl) _ _ rfl KB 0 rfl kcs _ (fun _ h => Blk.range h.kb) hu1 rfl hsi1) (by assumption) ?_
  simp only [List.set_cons_zero, List.set_cons_succ]
  refine take_put (i := 1) (oi := _) (v := ?_) 25 rfl rfl (by kernel_rfl) (by kernel_rfl) (by kernel_rfl) (fun _ _ _ h => h) (Or.inl ⟨by rfl, ?hy1⟩) (by assumption) ?_
  case hy1 => ((intro W hSw); (try dsimp only at hSw); go_simp; try (with_reducible rfl))
  simp only [List.set_cons_zero, List.set_cons_succ]
  refine take_put (i := 4) (oi := _) (v := _) 28 rfl rfl (by kernel_rfl) (by kernel_rfl) (by kernel_rfl) (fun _ _ _ h => h) (yieldsIf_load_mid (by rfl) _ _ rfl B 0 rfl cs _ (fun _ h => Blk.range h.blk) hu2 rfl hsi2) (by assumption) ?_
  simp only [List.set_cons_zero, List.set_cons_succ]
  refine wpAnyH_ready (rs := [2]) (by kernel_rfl) (by simp) ?_
  refine AllReadyH.cons (o := _) rfl (fun K hK => ?_) AllReadyH.nil
  go_simp
  refine hK.out _ _ ?_ (fun hHeld => ?_)
  · (first | assumption | exact TS.drew (by assumption) | exact TS.alloc (by assumption) _ | exact TS.drew (TS.alloc (by assumption) _) | exact TS.alloc (TS.drew (by assumption)) _)
  clear hK K
  try simp only [Act.put, List.setIfInBounds_toArray, List.set_cons_zero, List.set_cons_succ]
  refine wpAnyH_ready (rs := [3]) (by kernel_rfl) (by simp) ?_
  refine AllReadyH.cons (o := _) rfl (fun K hK => ?_) AllReadyH.nil
  go_simp
  first | (with_reducible refine (C1.out _ ?_).mono ?_; (first | assumption | exact TS.drew (by assumption) | exact TS.alloc (by assumption) _ | exact TS.drew (TS.alloc (by assumption) _) | exact TS.alloc (TS.drew (by assumption)) _); rintro e v1 ⟨rfl, sv1⟩) | (with_reducible refine (C1d.out _ ?_).mono ?_; (first | assumption | exact TS.drew (by assumption) | exact TS.alloc (by assumption) _ | exact TS.drew (TS.alloc (by assumption) _) | exact TS.alloc (TS.drew (by assumption)) _); rintro e v1 ⟨rfl, sv1⟩)
  refine hK.out _ _ ?_ (fun hHeld => ?_)
  · (first | assumption | exact TS.drew (by assumption) | exact TS.alloc (by assumption) _ | exact TS.drew (TS.alloc (by assumption) _) | exact TS.alloc (TS.drew (by assumption)) _)
  clear hK K
  try simp only [Act.put, List.setIfInBounds_toArray, List.set_cons_zero, List.set_cons_succ]
  refine take_put (i := 5) (oi := _) (v := ?_) 29 rfl rfl (by kernel_rfl) (by kernel_rfl) (by kernel_rfl) (fun _ _ _ h => h) (Or.inl ⟨by rfl, ?hy5⟩) (by assumption) ?_
  case hy5 => ((intro W hSw); (try dsimp only at hSw); go_simp; try (with_reducible rfl))
  simp only [List.set_cons_zero, List.set_cons_succ]
  refine take_put (i := 6) (oi := _) (v := ?_) 30 rfl rfl (by kernel_rfl) (by kernel_rfl) (by kernel_rfl) (fun _ _ _ h => h) (Or.inl ⟨by rfl, ?hy6⟩) (by assumption) ?_
  case hy6 => ((intro W hSw); (try dsimp only at hSw); go_simp; try (with_reducible rfl))
  simp only [List.set_cons_zero, List.set_cons_succ]
  refine take_put (i := 7) (oi := _) (v := _) 31 rfl rfl (by kernel_rfl) (by kernel_rfl) (by kernel_rfl) (fun _ _ _ h => h) (yieldsIf_load_mid (by rfl) _ _ rfl KB 0 rfl kcs _ (fun _ h => Blk.range h.kb) hu1 rfl hsi1) (by assumption) ?_
  simp only [List.set_cons_zero, List.set_cons_succ]
  refine take_put (i := 8) (oi := _) (v := ?_) 32 rfl rfl (by kernel_rfl) (by kernel_rfl) (by kernel_rfl) (fun _ _ _ h => h) (Or.inl ⟨by rfl, ?hy8⟩) (by assumption) ?_
  case hy8 => ((intro W hSw); (try dsimp only at hSw); go_simp; try (with_reducible rfl))
  simp only [List.set_cons_zero, List.set_cons_succ]
  refine take_put (i := 9) (oi := _) (v := ?_) 33 rfl rfl (by kernel_rfl) (by kernel_rfl) (by kernel_rfl) (fun _ _ _ h => h) (Or.inl ⟨by rfl, ?hy9⟩) (by assumption) ?_
  case hy9 => ((intro W hSw); (try dsimp only at hSw); go_simp; try (with_reducible rfl))
  simp only [List.set_cons_zero, List.set_cons_succ]
  refine take_put (i := 10) (oi := _) (v := ?_) 34 rfl rfl (by kernel_rfl) (by kernel_rfl) (by kernel_rfl) (fun _ _ _ h => h) (Or.inl ⟨by rfl, ?hy10⟩) (by assumption) ?_
  case hy10 => ((intro W hSw); (try dsimp only at hSw); go_simp; try (with_reducible rfl))
  simp only [List.set_cons_zero, List.set_cons_succ]
  refine take_put (i := 11) (oi := _) (v := ?_) 35 rfl rfl (by kernel_rfl) (by kernel_rfl) (by kernel_rfl) (fun _ _ _ h => h) (Or.inl ⟨by rfl, ?hy11⟩) (by assumption) ?_
  case hy11 => ((intro W hSw); (try dsimp only at hSw); go_simp; try (with_reducible rfl))
  simp only [List.set_cons_zero, List.set_cons_succ]
  refine take_put (i := 12) (oi := _) (v := ?_) 36 rfl rfl (by kernel_rfl) (by kernel_rfl) (by kernel_rfl) (fun _ _ _ h => h) (Or.inl ⟨by rfl, ?hy12⟩) (by assumption) ?_
  case hy12 => ((intro W hSw); (try dsimp only at hSw); go_simp; try (with_reducible rfl))
  simp only [List.set_cons_zero, List.set_cons_succ]
  refine take_put (i := 13) (oi := _) (v := ?_) 37 rfl rfl (by kernel_rfl) (by kernel_rfl) (by kernel_rfl) (fun _ _ _ h => h) (Or.inl ⟨by rfl, ?hy13⟩) (by assumption) ?_
  case hy13 => ((intro W hSw); (try dsimp only at hSw); go_simp; try (with_reducible rfl))
  simp only [List.set_cons_zero, List.set_cons_succ]
  refine take_put (i := 16) (oi := _) (v := _) 40 rfl rfl (by kernel_rfl) (by kernel_rfl) (by kernel_rfl) (fun _ _ _ h => h) (yieldsIf_load_mid (by rfl) _ _ rfl B 0 rfl cs _ (fun _ h => Blk.range h.blk) hu2 rfl hsi2) (by assumption) ?_
  simp only [List.set_cons_zero, List.set_cons_succ]
  refine wpAnyH_ready (rs := [14]) (by kernel_rfl) (by simp) ?_
  refine AllReadyH.cons (o := _) rfl (fun K hK => ?_) AllReadyH.nil
  go_simp
  refine hK.out _ _ ?_ (fun hHeld => ?_)
  · (first | assumption | exact TS.drew (by assumption) | exact TS.alloc (by assumption) _ | exact TS.drew (TS.alloc (by assumption) _) | exact TS.alloc (TS.drew (by assumption)) _)
  clear hK K
  try simp only [Act.put, List.setIfInBounds_toArray, List.set_cons_zero, List.set_cons_succ]
  refine wpAnyH_ready (rs := [15]) (by kernel_rfl) (by simp) ?_
  refine AllReadyH.cons (o := _) rfl (fun K hK => ?_) AllReadyH.nil
  go_simp
  first | (with_reducible refine (C2.out _ ?_).mono ?_; (first | assumption | exact TS.drew (by assumption) | exact TS.alloc (by assumption) _ | exact TS.drew (TS.alloc (by assumption) _) | exact TS.alloc (TS.drew (by assumption)) _); rintro e v2 ⟨rfl, sv2⟩) | (with_reducible refine (C2d.out _ ?_).mono ?_; (first | assumption | exact TS.drew (by assumption) | exact TS.alloc (by assumption) _ | exact TS.drew (TS.alloc (by assumption) _) | exact TS.alloc (TS.drew (by assumption)) _); rintro e v2 ⟨rfl, sv2⟩)
  refine hK.out _ _ ?_ (fun hHeld => ?_)
  · (first | assumption | exact TS.drew (by assumption) | exact TS.alloc (by assumption) _ | exact TS.drew (TS.alloc (by assumption) _) | exact TS.alloc (TS.drew (by assumption)) _)
  clear hK K
  try simp only [Act.put, List.setIfInBounds_toArray, List.set_cons_zero, List.set_cons_succ]
  refine take_put (i := 17) (oi := _) (v := ?_) 41 rfl rfl (by kernel_rfl) (by kernel_rfl) (by kernel_rfl) (fun _ _ _ h => h) (Or.inl ⟨by rfl, ?hy17⟩) (by assumption) ?_
  case hy17 => ((intro W hSw); (try dsimp only at hSw); go_simp; try (with_reducible rfl))
  simp only [List.set_cons_zero, List.set_cons_succ]
  refine take_put (i := 18) (oi := _) (v := ?_) 42 rfl rfl (by kernel_rfl) (by kernel_rfl) (by kernel_rfl) (fun _ _ _ h => h) (Or.inl ⟨by rfl, ?hy18⟩) (by assumption) ?_
  case hy18 => ((intro W hSw); (try dsimp only at hSw); go_simp; try (with_reducible rfl))
  simp only [List.set_cons_zero, List.set_cons_succ]
  refine take_put (i := 19) (oi := _) (v := ?_) 43 rfl rfl (by kernel_rfl) (by kernel_rfl) (by kernel_rfl) (fun _ _ _ h => h) (Or.inl ⟨by rfl, ?hy19⟩) (by assumption) ?_
  case hy19 => ((intro W hSw); (try dsimp only at hSw); go_simp; try (with_reducible rfl))
  simp only [List.set_cons_zero, List.set_cons_succ]
  refine take_put (i := 20) (oi := _) (v := ?_) 44 rfl rfl (by kernel_rfl) (by kernel_rfl) (by kernel_rfl) (fun _ _ _ h => h) (Or.inl ⟨by rfl, ?hy20⟩) (by assumption) ?_
  case hy20 => ((intro W hSw); (try dsimp only at hSw); go_simp; try (with_reducible rfl))
  simp only [List.set_cons_zero, List.set_cons_succ]
  refine take_put (i := 21) (oi := _) (v := ?_) 45 rfl rfl (by kernel_rfl) (by kernel_rfl) (by kernel_rfl) (fun _ _ _ h => h) (Or.inl ⟨by rfl, ?hy21⟩) (by assumption) ?_
  case hy21 => ((intro W hSw); (try dsimp only at hSw); go_simp; try (with_reducible rfl))
  simp only [List.set_cons_zero, List.set_cons_succ]
  refine wpAnyH_ready (rs := [22]) (by kernel_rfl) (by simp) ?_
  refine AllReadyH.cons (o := _) rfl (fun K hK => ?_) AllReadyH.nil
  go_simp
  (with_reducible refine (C3.out _ ?_).mono ?_; (first | assumption | exact TS.drew (by assumption) | exact TS.alloc (by assumption) _ | exact TS.drew (TS.alloc (by assumption) _) | exact TS.alloc (TS.drew (by assumption)) _); rintro e v3 ⟨rfl, sv3⟩)
  refine hK.out _ _ ?_ (fun hHeld => ?_)
  · (first | assumption | exact TS.drew (by assumption) | exact TS.alloc (by assumption) _ | exact TS.drew (TS.alloc (by assumption) _) | exact TS.alloc (TS.drew (by assumption)) _)
  clear hK K
  try simp only [Act.put, List.setIfInBounds_toArray, List.set_cons_zero, List.set_cons_succ]
  refine take_put (i := 23) (oi := _) (v := ?_) 47 rfl rfl (by kernel_rfl) (by kernel_rfl) (by kernel_rfl) (fun _ _ _ h => h) (Or.inl ⟨by rfl, ?hy23⟩) (by assumption) ?_
  case hy23 => ((intro W hSw); (try dsimp only at hSw); go_simp; try (with_reducible rfl))
  simp only [List.set_cons_zero, List.set_cons_succ]
  refine take_put (i := 24) (oi := _) (v := ?_) 48 rfl rfl (by kernel_rfl) (by kernel_rfl) (by kernel_rfl) (fun _ _ _ h => h) (Or.inl ⟨by rfl, ?hy24⟩) (by assumption) ?_
  case hy24 => ((intro W hSw); (try dsimp only at hSw); go_simp; try (with_reducible rfl))
  simp only [List.set_cons_zero, List.set_cons_succ]
  refine wpAnyH_ready (rs := [25]) (by kernel_rfl) (by simp) ?_
  refine AllReadyH.cons (o := _) rfl (fun K hK => ?_) AllReadyH.nil
  go_simp
  (with_reducible refine (C4.out _ ?_).mono ?_; (first | assumption | exact TS.drew (by assumption) | exact TS.alloc (by assumption) _ | exact TS.drew (TS.alloc (by assumption) _) | exact TS.alloc (TS.drew (by assumption)) _); rintro e v4 ⟨rfl, sv4⟩)
  refine hK.out _ _ ?_ (fun hHeld => ?_)
  · (first | assumption | exact TS.drew (by assumption) | exact TS.alloc (by assumption) _ | exact TS.drew (TS.alloc (by assumption) _) | exact TS.alloc (TS.drew (by assumption)) _)
  clear hK K
  try simp only [Act.put, List.setIfInBounds_toArray, List.set_cons_zero, List.set_cons_succ]
  refine take_put (i := 26) (oi := _) (v := ?_) 50 rfl rfl (by kernel_rfl) (by kernel_rfl) (by kernel_rfl) (fun _ _ _ h => h) (Or.inl ⟨by rfl, ?hy26⟩) (by assumption) ?_
  case hy26 => ((intro W hSw); (try dsimp only at hSw); go_simp; try (with_reducible rfl))
  simp only [List.set_cons_zero, List.set_cons_succ]
  refine take_put (i := 27) (oi := _) (v := ?_) 6 rfl rfl (by kernel_rfl) (by kernel_rfl) (by kernel_rfl) (fun _ _ _ h => h) (Or.inl ⟨by rfl, ?hy27⟩) (by assumption) ?_
  case hy27 => ((intro W hSw); (try dsimp only at hSw); go_simp; try (with_reducible rfl))
  simp only [List.set_cons_zero, List.set_cons_succ]
  refine wpAnyH_done (by kernel_rfl) ?_ _
  go_wp2_with (fail)
  go_ret
  exact ⟨rfl, hHeld.below⟩
theorem own : ownKnob Try.prog.godebug = none := by kernel_rfl
theorem laidOut : laidOutB Try.prog = true := by kernel_rfl

set_option maxRecDepth 100000 in
theorem lifted (os : Os) (started : os.Started) (H : Type) (enc : TypeId × Value → H) :
    ReturnsInHanded {} Try.checked os 3 .any (Rows.polyTagsSpec.pre6 enc Try.prog Try.f3 Rows.polyTagsRow.domain false) (Rows.polyTagsSpec.post enc Try.prog Try.f3 false true false false) := by
  refine returnsInHanded_of_change (C := Try.checked) own started (by kernel_rfl) Try.func3
    (ChangeSpec.witness6 (enc := enc) (C := Try.checked) false ⟨#[], #[.agg (List.replicate 32 (Value.int .u8 0)).toArray, .slice none 0 0, .int .i64 0], []⟩ 8 (by kernel_rfl) (by kernel_rfl) (by kernel_rfl) (by kernel_rfl)) ?_
  intro W base args ds gs before hval0 hW hcnd _
  have hval : ∀ (j : Nat) t v, Try.f3.params[j]? = some t → args[j]? = some v → Value.okWide Try.prog W .any base t v := hval0
  have hW' := hW
  obtain ⟨p, q, hA0, hV, rfl, hfz, hnd⟩ := hW
  have hA : DataW.TrodAll enc Try.prog W 0 (fun _ => true) true Try.f3.params.toList args.toList ds p := hA0
  rw [Try.params3] at hA hval
  obtain ⟨v0, vs0, dd0, ds0, p0, q0, hargs, rfl, rfl, h0, r0⟩ := trodAll_cons hA
  obtain ⟨v1, vs1, dd1, ds1, p1, q1, rfl, rfl, rfl, h1, r1⟩ := trodAll_cons r0
  obtain ⟨v2, vs2, dd2, ds2, p2, q2, rfl, rfl, rfl, h2, r2⟩ := trodAll_cons r1
  obtain ⟨rfl, rfl, rfl⟩ := trodAll_nil r2
  obtain rfl : args = #[v0, v1, v2] := by cases args; simp_all
  obtain ⟨rfl, rfl⟩ := trodVars_none hV
  have g0 := h0
  have lt0 : ∀ x ∈ p0, x.block < W.heap.size := by obtain ⟨m, hm⟩ := g0; exact DataW.trod_lt m _ _ _ hm
  obtain ⟨x0, rfl, l0⟩ := bytes_of_arr Try.underlying23 Try.underlying5 (by kernel_rfl) (by kernel_rfl) (hval 0 23 v0 rfl rfl) h0
  obtain ⟨A1, n1, c1, rfl⟩ := okWide_slice Try.underlying24 (hval 1 24 v1 rfl rfl)
  have g1 := h1
  have lt1 : ∀ x ∈ p1, x.block < W.heap.size := by obtain ⟨m, hm⟩ := g1; exact DataW.trod_lt m _ _ _ hm
  obtain ⟨x1, k1⟩ : ∃ xs, Rd W (.slice A1 n1 c1) xs := by
    obtain ⟨fuel, hf⟩ := h1
    rcases open_ints Try.underlying24 Try.underlying5 (by kernel_rfl) hf with ⟨hcs, _⟩ | ⟨x, l, c, zs, hcs, _, hl, hm, hz, _, hcell, hwz⟩
    · simp [Value.cells] at hcs
      obtain ⟨rfl, rfl, rfl⟩ := hcs
      exact ⟨[], Rd.nil W⟩
    · simp [Value.cells] at hcs
      obtain ⟨rfl, rfl, rfl⟩ := hcs
      exact rd_of_row hl hm (by simpa using hz) hcell hwz
  obtain ⟨a2, rfl, rfl, rfl, k2⟩ := open_int Try.underlying3 (hval 2 3 v2 rfl rfl) h2
  clear hA0 hval0
  refine (walk x0 _ x1 a2 W l0 k1 k2).mono fun e W' ⟨he, bel⟩ => ?_
  subst he
  exact ⟨_, rfl, _, _, _, [], _, [], hW', trodAll_mk1 (shut_bool Try.underlying4 _), (trodAll_cons_mk (Below.trod laidOut (by kernel_rfl) (of_decide_eq_true (by kernel_rfl)) g0 bel lt0) (trodAll_cons_mk (Below.trod laidOut (by kernel_rfl) (of_decide_eq_true (by kernel_rfl)) g1 bel lt1) (trodAll_cons_mk (shut_int Try.underlying3 k2) trodAll_mk0))), rfl, bel.frame _, fun h => by cases h⟩

theorem over : Rows.polyTagsRow.holds Try.pinned (OpenSpec.ofChange Rows.polyTagsSpec) :=
  OpenClaim.holds_of_wide 3 Try.f3 rfl rfl rfl rfl rfl rfl rfl ⟨rfl, rfl, rfl, rfl, rfl⟩ rfl rfl rfl rfl rfl (by kernel_rfl) Try.func3 (by kernel_rfl)
    (of_decide_eq_true (by kernel_rfl)) (by unfold Func.isWrapper; first | (rw [if_pos (by decide +kernel)]; kernel_rfl) | (rw [if_neg (by decide +kernel)]; exact ⟨rfl, rfl⟩))
    (fun os started H enc _ => lifted os started H enc)

theorem proved : Rows.PolyTagsSaid := over
#print axioms proved
end Go.Proofs.Ytlcpplnajaldgaa.polyTags
