/- What is proved: 'PolySums' (law 5) returns true whatever comes in: by a key whose first half is 0 each tag is the second half; nothing has that tag by any key; the arguments read afterwards as before.
   Conditions: none of its own. -/
import Derived.Test.YtlcpplnajaldgaaPTag
import Derived.Test.YtlcpplnajaldgaaPSum
import Derived.Test.YtlcpplnajaldgaaLent
import Derived.Test.YtlcpplnajaldgaaInv
import Derived.Test.YtlcpplnajaldgaaArrIn
import Derived.ProofKit
import Derived.OpenShut
import Derived.Carry
import Derived.Deep.Cut
namespace Go.Proofs.Ytlcpplnajaldgaa.polySums
open Go.ChangeShapes Go.WideShapes Go.ChangeAt Go.RowKit

theorem slice_info : (Try.prog.info? 24).map (fun i => (i.zero, i.size, i.bytes)) = some (some (.slice none 0 0), 1, 24) := by kernel_rfl
/-- What stands through the region of the two tags. -/
structure SuC (w : World) (KB OB : Nat) (k z : List UInt8) (v1 : Value) (x1 : List UInt8) (V : World) : Prop where
  low : Below w.heap.size w V
  kb : Blk V KB 23 (k.map bv)
  ob : Blk V OB 23 (z.map bv)
  rd : Rd V v1 x1
theorem SuC.on {w V V' : World} {KB OB : Nat} {k z : List UInt8} {v1 : Value} {x1 : List UInt8} (h : SuC w KB OB k z v1 x1 V) (hb : Below V.heap.size V V') : SuC w KB OB k z v1 x1 V' :=
  ⟨h.low.trans (hb.mono h.low.size), h.kb.below hb h.kb.lt, h.ob.below hb h.ob.lt, h.rd.below hb⟩
/-- A new array for a tag. -/
def NewT (B0 : Nat) (v : Value) (V : World) : Prop := ∃ B, v = .pointer (some ⟨B, 0, none⟩) ∧ B0 ≤ B ∧ Blk V B 29 (List.replicate 16 (Value.int .u8 0))
theorem NewT.on {V V' : World} {B0 : Nat} {v : Value} (h : NewT B0 v V) (hb : Below V.heap.size V V') : NewT B0 v V' := by
  obtain ⟨B, h1, h2, h3⟩ := h
  exact ⟨B, h1, h2, h3.below hb h3.lt⟩
theorem NewT.blk {V : World} {B0 : Nat} {v : Value} (h : NewT B0 v V) : ∃ b, blkOf v = some b ∧ b < V.heap.size := by
  obtain ⟨B, rfl, _, h3⟩ := h
  exact ⟨B, rfl, h3.lt⟩
def suD (k : Nat) : Nat := [20, 21, 22, 23, 24, 25, 7, 8].getD k 0
def suFr (k : Nat) : Bool := decide (k = 6) || decide (k = 7)
/-- What each operation has left. -/
def suF (B0 : Nat) (k z : List UInt8) (v1 : Value) (x1 : List UInt8) (i : Nat) (v : Value) (V : World) : Prop :=
  match i with
  | 0 => v = .agg (z.map bv).toArray
  | 1 => v = v1
  | 2 => Rs V v [x1]
  | 3 => v = .agg ((k.drop 16).map bv).toArray
  | 4 => v = .agg (k.map bv).toArray
  | 5 => v = .agg ((k.drop 16).map bv).toArray
  | 6 => NewT B0 v V
  | 7 => NewT B0 v V
  | _ => True
theorem suF.on {V V' : World} {B0 : Nat} {k z : List UInt8} {v1 : Value} {x1 : List UInt8} {i : Nat} {v : Value} (hb : Below V.heap.size V V') (h : suF B0 k z v1 x1 i v V) : suF B0 k z v1 x1 i v V' := by
  match i, h with
  | 0, h => exact h
  | 1, h => exact h
  | 2, h => exact Rs.below h hb
  | 3, h => exact h
  | 4, h => exact h
  | 5, h => exact h
  | 6, h => exact NewT.on h hb
  | 7, h => exact NewT.on h hb
  | n + 8, _ => exact trivial
theorem suD_inj : ∀ j k, j < 8 → k < 8 → suD j = suD k → j = k := fun j k hj hk => (by decide : ∀ j, j < 8 → ∀ k, k < 8 → suD j = suD k → j = k) j hj k hk
theorem suFr_blk {V : World} {B0 : Nat} {k z : List UInt8} {v1 : Value} {x1 : List UInt8} : ∀ (i : Nat) (u : Value), i < 8 → suFr i = true → suF B0 k z v1 x1 i u V → ∃ b, blkOf u = some b ∧ b < V.heap.size := fun i u _ hf h => by
  have hi : i = 6 ∨ i = 7 := by simpa [suFr] using hf
  rcases hi with rfl | rfl
  · exact NewT.blk h
  · exact NewT.blk h
/-- What stands behind the region of the two tags. -/
structure SuE (w : World) (KB B7 B8 : Nat) (k t : List UInt8) (V : World) : Prop where
  low : Below w.heap.size w V
  kb : Blk V KB 23 (k.map bv)
  b7 : Blk V B7 29 (t.map bv)
  b8 : Blk V B8 29 (t.map bv)
theorem SuE.on {w V V' : World} {KB B7 B8 : Nat} {k t : List UInt8} (h : SuE w KB B7 B8 k t V) (hb : Below V.heap.size V V') : SuE w KB B7 B8 k t V' :=
  ⟨h.low.trans (hb.mono h.low.size), h.kb.below hb h.kb.lt, h.b7.below hb h.b7.lt, h.b8.below hb h.b8.lt⟩
theorem SuE.drew {w V : World} {KB B7 B8 : Nat} {k t : List UInt8} (h : SuE w KB B7 B8 k t V) : SuE w KB B7 B8 k t V.drew := h.on (Below.refl _ _).drew
set_option maxRecDepth 100000 in
set_option maxHeartbeats 2000000 in
theorem walk (x0 : List UInt8) (v1 : Value) (x1 : List UInt8) (w : World) (l0 : x0.length = 32) (k1 : Rd w v1 x1) :
    Calls Try.prog 4 #[.agg (x0.map bv).toArray, v1] w fun e w' => e = .returned (.bool true) ∧ Below w.heap.size w w' := by
  obtain ⟨A, c, rfl, hc1, hc2, _⟩ := k1.form
  have R1 := Lib.hid k1
  have HIK : Hid ((Try.prog.info? 23).map (·.size) = some 32) := by show _ = _; kernel_rfl
  have HIT : Hid ((Try.prog.info? 29).map (·.size) = some 16) := by show _ = _; kernel_rfl
  unfold maxLen at hc2
  have L0 := Lib.hid l0
  have HKM : Hid ((x0.map bv).length = 32) := by show _ = _; rw [List.length_map, l0]
  have K1 : Hid (Blk (w.alloc (.cells (x0.map bv).toArray 23)) w.heap.size 23 (x0.map bv)) := Lib.hid (Blk.made w _ _)
  have D1 : Hid (Below w.heap.size w (w.alloc (.cells (x0.map bv).toArray 23))) := Lib.hid ((Below.refl _ _).alloc (Nat.le_refl _) _)
  have K2 := Lib.hid (K1.out.alloc (.cells (List.replicate 32 (Value.int .u8 0)).toArray 23))
  have O2 : Hid (Blk ((w.alloc (.cells (x0.map bv).toArray 23)).alloc (.cells (List.replicate 32 (Value.int .u8 0)).toArray 23)) (w.heap.size + 1) 23 (List.replicate 32 (Value.int .u8 0))) := Lib.hid (by
    have h := Blk.made (w.alloc (.cells (x0.map bv).toArray 23)) 23 (List.replicate 32 (Value.int .u8 0))
    rw [World.size_alloc] at h
    exact h)
  have D2 : Hid (Below w.heap.size w ((w.alloc (.cells (x0.map bv).toArray 23)).alloc (.cells (List.replicate 32 (Value.int .u8 0)).toArray 23))) := Lib.hid (D1.out.alloc (by simp) _)
  clear k1 l0
  by_cases h0 : 300 < x1.length
  · have lI : (300 : Int) < (x1.length : Int) := by omega
    go_enter Try.func4, Try.ntmps4
    go_wp2_with (refine Go.Great.wpList_boxTo rfl _ _ rfl _ rfl w.heap.size rfl ((x0.map bv).toArray) rfl ?_)
    refine (polAwake_any tagc _).mono ?_
    rintro e w3 ⟨rfl, hb3⟩
    go_wp2_with (fail)
    go_ret
    exact ⟨rfl, D1.out.trans (hb3.mono D1.out.size)⟩
  have lI0 : (x1.length : Int) ≤ 300 := by omega
  have HL : Hid (x1.length ≤ 300) := Lib.hid (by omega)
  go_enter Try.func4, Try.ntmps4
  go_wp2_with (first
    | refine Go.Great.wpList_boxTo rfl _ _ rfl _ rfl w.heap.size rfl ((x0.map bv).toArray) rfl ?_
    | (refine wpList_load_blk rfl 23 (.tmp 2) rfl w.heap.size rfl 23 (x0.map bv) _ K1.out Try.underlying23 rfl (by rw [HKM.out]; exact HIK.out) ?_)
    | (refine wpList_store_blk rfl 23 (.tmp 5) (.tmp 13) rfl (w.heap.size + 1) 23 _ O2.out (x0.map bv) rfl rfl (by rw [HKM.out]; rfl) (by rw [HKM.out]; exact HIK.out) (bv_one _) ?_
       intro w3 hb3 hs3))
  have O3 := Lib.hid hb3
  have K3 := Lib.hid (hs3.blk K2.out (by omega))
  have D3 : Hid (Below w.heap.size w w3) := Lib.hid (D2.out.trans (hs3.below.mono (by omega)))
  clear hb3 hs3 K2 O2 D2
  refine zer_loop _ _ _ _ _ _ _ _ _ _ _ _ _ _ _ _ _ _ _ _ _ _ _ _ _ _ _ _ _ _ _ _ _ _ _ (w.heap.size + 1) x0 w3 L0 O3 (Lib.hid ?_)
  intro u6 u14 u15 u16 u17 u18 u19 w4 hb4 hs4
  have K4 := Lib.hid (hs4.out.blk K3.out (by omega))
  have D4 : Hid (Below w.heap.size w w4) := Lib.hid (D3.out.trans (hs4.out.below.mono (by omega)))
  obtain ⟨z, hz⟩ : ∃ z, z = zeroK x0 16 := ⟨_, rfl⟩
  have O4 : Hid (Blk w4 (w.heap.size + 1) 23 (z.map bv)) := by rw [hz]; exact hb4
  have HZL : Hid (z.length = 32) := Lib.hid (by rw [hz, zeroK_length (by rw [L0.out]; omega), L0.out])
  have HZM : Hid ((z.map bv).length = 32) := Lib.hid (by rw [List.length_map]; exact HZL.out)
  have HZT : Hid (z.take 16 = List.replicate 16 0 ∧ z.drop 16 = x0.drop 16) := Lib.hid (by rw [hz]; exact ⟨zeroK_take, zeroK_drop⟩)
  clear hb4 hs4 K3 O3 D3 hz
  obtain ⟨KB, hKB⟩ : ∃ B, B = w.heap.size := ⟨_, rfl⟩
  obtain ⟨OB, hOB⟩ : ∃ B, B = w.heap.size + 1 := ⟨_, rfl⟩
  have hC : SuC w KB OB x0 z (.slice A x1.length c) x1 w4 := ⟨D4.out, by rw [hKB]; exact K4.out, by rw [hOB]; exact O4.out, R1.out.below D4.out⟩
  have HKB := Lib.hid hKB
  have HOB := Lib.hid hOB
  obtain ⟨i0, hi0, hz0, hz1, hz2⟩ := info_parts slice_info
  have HN : Hid (∀ V, Rs V (.slice none 0 0) [] ∨ True) := Lib.hid fun _ => .inr trivial
  go_upto_region 8 with (fail)
  rw [← HOB.out, ← HKB.out]
  clear hKB hOB HN
  refine wp_region_any (by kernel_rfl) ?_
  change wpAny _ _ _ _ (8 + 2) (lst (List.replicate 8 false) 2) _ w4.drew
  refine wpAny_first 8 2 rfl (by kernel_rfl) (by kernel_rfl) (Inv 8 _ suD suFr (suF (OB + 1) x0 z (.slice A x1.length c) x1) (SuC w KB OB x0 z (.slice A x1.length c) x1)) ?hstep ?hfin 8 (List.replicate 8 false) _ _ rfl rfl (Inv.start 8 _ suD suFr _ _ _ (hC.on (Below.refl _ _).drew))
  case hstep =>
    intro i o hi ho L a V hl hI hun hdep K hK
    have hsz : ∀ i, i < 8 → suD i < 37 := by decide
    have nx : ∀ (v : Value) (V' : World), Below V.heap.size V V' → suF (OB + 1) x0 z (.slice A x1.length c) x1 i v V' → (suFr i = true → ∃ b, blkOf v = some b ∧ V.heap.size ≤ b) → K (a.put (some (suD i)) v) V' := fun v V' hb hv hf => hK _ _ (hI.next hi suD_inj (hsz i hi) (hI.core.on hb) (fun k u _ _ h => suF.on hb h) hv hf suFr_blk)
    clear hsz
    match i, hi with
    | 0, _ =>
      obtain rfl := Option.some.inj ho
      exact step_load_blk rfl 23 (.tmp 5) rfl OB ((hI.eval (by decide)).trans rfl) 23 (z.map bv) _ hI.core.ob Try.underlying23 rfl (by rw [HZM.out]; exact HIK.out) (nx _ _ (Below.refl _ _) rfl (fun h => by cases h))
    | 1, _ =>
      obtain rfl := Option.some.inj ho
      exact step_move rfl (.tmp 1) rfl (nx _ _ (Below.refl _ _) ((hI.eval (by decide)).trans rfl) (fun h => by cases h))
    | 2, _ =>
      obtain rfl := Option.some.inj ho
      have h1 : a.tmps.getD 21 undef = .slice A x1.length c := hI.got 1 (by omega) (hdep _ (Array.mem_of_getElem? (i := 0) rfl) rfl)
      exact step_build1 rfl 44 24 (.tmp 21) rfl i0 _ _ Try.underlying44 hi0 hz0 hz1 rfl h1 rfl (nx _ _ ((Below.refl _ _).alloc (Nat.le_refl _) _) (rs_lit1 hI.core.rd) (fun h => by cases h))
    | 3, _ =>
      obtain rfl := Option.some.inj ho
      have h0 : a.tmps.getD 20 undef = .agg (z.map bv).toArray := hI.got 0 (by omega) (hdep _ (Array.mem_of_getElem? (i := 0) rfl) rfl)
      have h2 : Rs V (a.tmps.getD 22 undef) [x1] := hI.got 2 (by omega) (hdep _ (Array.mem_of_getElem? (i := 1) rfl) rfl)
      refine step_call rfl 12 _ _ rfl (enters_of Try.func12 (by kernel_rfl) rfl) #[arrV z, a.tmps.getD 22 undef] (by simp only [List.map_toArray, List.map_cons, List.map_nil, Act.eval, h0]; rfl) ((tagc z _ [x1] V HZL.out (.inl h2) (by simp) (by simpa using HL.out)).mono ?_)
      rintro e V' ⟨rfl, hb⟩
      refine nx _ _ hb ?_ (fun h => by cases h)
      show arrV (tagB z [x1].flatten) = _
      rw [tag_zero _ HZL.out HZT.out.1, HZT.out.2]
      rfl
    | 4, _ =>
      obtain rfl := Option.some.inj ho
      exact step_load_blk rfl 23 (.tmp 2) rfl KB ((hI.eval (by decide)).trans rfl) 23 (x0.map bv) _ hI.core.kb Try.underlying23 rfl (by rw [HKM.out]; exact HIK.out) (nx _ _ (Below.refl _ _) rfl (fun h => by cases h))
    | 5, _ =>
      obtain rfl := Option.some.inj ho
      have h4 : a.tmps.getD 24 undef = .agg (x0.map bv).toArray := hI.got 4 (by omega) (hdep _ (Array.mem_of_getElem? (i := 0) rfl) rfl)
      refine step_call rfl 12 _ _ rfl (enters_of Try.func12 (by kernel_rfl) rfl) #[arrV x0, .slice none 0 0] (by simp only [List.map_toArray, List.map_cons, List.map_nil, Act.eval, h4]; rfl) ((tagc x0 _ [] V L0.out (.inr ⟨rfl, rfl⟩) (by simp) (by simp)).mono ?_)
      rintro e V' ⟨rfl, hb⟩
      refine nx _ _ hb ?_ (fun h => by cases h)
      show arrV (tagB x0 [].flatten) = _
      rw [show ([] : List (List UInt8)).flatten = [] from rfl, tag_nil L0.out]
      rfl
    | 6, _ =>
      obtain rfl := Option.some.inj ho
      go_simp
      exact nx (.pointer (some ⟨V.heap.size, 0, none⟩)) _ ((Below.refl _ _).alloc (Nat.le_refl _) _) ⟨V.heap.size, rfl, hI.core.ob.lt, Blk.made V _ _⟩ (fun _ => ⟨_, rfl, Nat.le_refl _⟩)
    | 7, _ =>
      obtain rfl := Option.some.inj ho
      go_simp
      exact nx (.pointer (some ⟨V.heap.size, 0, none⟩)) _ ((Below.refl _ _).alloc (Nat.le_refl _) _) ⟨V.heap.size, rfl, hI.core.ob.lt, Blk.made V _ _⟩ (fun _ => ⟨_, rfl, Nat.le_refl _⟩)
  case hfin =>
    intro a V hI
    obtain ⟨u, rfl, hu, hap⟩ := hI.form
    have e3 : u 3 = .agg ((x0.drop 16).map bv).toArray := hu 3 (by omega) rfl
    have e5 : u 5 = .agg ((x0.drop 16).map bv).toArray := hu 5 (by omega) rfl
    obtain ⟨B7, e6, hB7, hb7⟩ : NewT (OB + 1) (u 6) V := hu 6 (by omega) rfl
    obtain ⟨B8, e7, hB8, hb8⟩ : NewT (OB + 1) (u 7) V := hu 7 (by omega) rfl
    have hne : B7 ≠ B8 := by
      have h := hap 6 7 (by omega) (by omega) (by omega) rfl rfl rfl rfl
      rw [e6, e7] at h
      intro e
      exact h (by rw [e])
    have hCV := hI.core
    clear hI hap hu
    simp only [putAll, show List.range 8 = [0, 1, 2, 3, 4, 5, 6, 7] from rfl, List.foldl_cons, List.foldl_nil, show suD 0 = 20 from rfl, show suD 1 = 21 from rfl, show suD 2 = 22 from rfl, show suD 3 = 23 from rfl, show suD 4 = 24 from rfl, show suD 5 = 25 from rfl, show suD 6 = 7 from rfl, show suD 7 = 8 from rfl, List.setIfInBounds_toArray, List.set_cons_succ, List.set_cons_zero, e3, e5, e6, e7]
    have HB7 := Lib.hid hb7
    have HB8 := Lib.hid hb8
    have HNE := Lib.hid hne
    have HT : Hid (((x0.drop 16).map bv).length = 16) := Lib.hid (by rw [List.length_map, List.length_drop, L0.out])
    have HC2 := Lib.hid hCV
    have HLT : Hid (w.heap.size ≤ KB ∧ KB < OB ∧ w.heap.size ≤ OB ∧ OB < B7 ∧ OB < B8) := Lib.hid (by have := HKB.out; have := HOB.out; omega)
    clear hb7 hb8 hne hCV e3 e5 e6 e7 hB7 hB8
    refine wpAny_of_held (S := fun _ => True) _ _ _ _ ?_
    refine wpAnyH_ready (rs := [8]) (by kernel_rfl) (by simp) ?_
    refine AllReadyH.cons (o := _) rfl (fun K hK => ?_) AllReadyH.nil
    refine step_store_arr rfl 29 (.tmp 7) (.tmp 23) rfl B7 29 _ HB7.out ((x0.drop 16).map bv) rfl rfl (by rw [HT.out]; rfl) (by rw [HT.out]; exact HIT.out) (bv_one _) ?_
    intro V1 hv1 hs1
    refine hK.out _ _ trivial (fun _ => ?_)
    clear hK K
    try simp only [Act.put, List.setIfInBounds_toArray]
    refine wpAnyH_ready (rs := [9]) (by kernel_rfl) (by simp) ?_
    refine AllReadyH.cons (o := _) rfl (fun K hK => ?_) AllReadyH.nil
    refine step_store_arr rfl 29 (.tmp 8) (.tmp 25) rfl B8 29 _ (hs1.blk HB8.out HNE.out.symm) ((x0.drop 16).map bv) rfl rfl (by rw [HT.out]; rfl) (by rw [HT.out]; exact HIT.out) (bv_one _) ?_
    intro V2 hv2 hs2
    refine hK.out _ _ trivial (fun _ => ?_)
    clear hK K
    try simp only [Act.put]
    refine wpAnyH_done (by kernel_rfl) ?_ _
    have hE : SuE w KB B7 B8 x0 (x0.drop 16) V2 := by
      have h := HLT.out
      have hb1 : Below w.heap.size V V1 := hs1.below.mono (by omega)
      have hb2 : Below w.heap.size V1 V2 := hs2.below.mono (by omega)
      exact ⟨HC2.out.low.trans (hb1.trans hb2), hs2.blk (hs1.blk HC2.out.kb (by omega)) (by omega), hs2.blk hv1 HNE.out, hv2⟩
    clear HC2 HB7 HB8 hs1 hs2 hv1 hv2
    obtain ⟨t, ht⟩ : ∃ t, t = x0.drop 16 := ⟨_, rfl⟩
    have HTL : Hid (t.length = 16) := Lib.hid (by rw [ht, List.length_drop, L0.out])
    have HTD := Lib.hid ht
    have S7 : Hid (∀ V, SuE w KB B7 B8 x0 t V → Calls Try.prog 14 #[.slice (some ⟨B7, 0, none⟩) 16 16, .slice (some ⟨KB, 16, none⟩) 16 16] V fun e V' => e = .returned (.bool true) ∧ SuE w KB B7 B8 x0 t V') := Lib.hid fun V hV => (same_yes _ _ t V (by
      have h := Blk.rd hV.b7 16 16 (by rw [HTL.out]; omega) (by omega) (by unfold maxLen; omega)
      rwa [List.take_of_length_le (by rw [HTL.out]; omega)] at h) (by
      have h := Blk.rdo hV.kb 16 16 16 (by rw [L0.out]; omega) (by omega) (by unfold maxLen; omega)
      rwa [← HTD.out, List.take_of_length_le (by rw [HTL.out]; omega)] at h)).mono fun e V' ⟨he, n, hn⟩ => ⟨he, hn ▸ hV.on (below_drewN (Below.refl _ _) n)⟩
    have S8 : Hid (∀ V, SuE w KB B7 B8 x0 t V → Calls Try.prog 14 #[.slice (some ⟨B8, 0, none⟩) 16 16, .slice (some ⟨KB, 16, none⟩) 16 16] V fun e V' => e = .returned (.bool true) ∧ SuE w KB B7 B8 x0 t V') := Lib.hid fun V hV => (same_yes _ _ t V (by
      have h := Blk.rd hV.b8 16 16 (by rw [HTL.out]; omega) (by omega) (by unfold maxLen; omega)
      rwa [List.take_of_length_le (by rw [HTL.out]; omega)] at h) (by
      have h := Blk.rdo hV.kb 16 16 16 (by rw [L0.out]; omega) (by omega) (by unfold maxLen; omega)
      rwa [← HTD.out, List.take_of_length_le (by rw [HTL.out]; omega)] at h)).mono fun e V' ⟨he, n, hn⟩ => ⟨he, hn ▸ hV.on (below_drewN (Below.refl _ _) n)⟩
    have SA : Hid (∀ V, SuE w KB B7 B8 x0 t V → Calls Try.prog 8 #[] V fun e V' => e = .returned (.bool true) ∧ SuE w KB B7 B8 x0 t V') := Lib.hid fun V hV => (polAwake_any tagc V).mono fun e V' ⟨he, hb⟩ => ⟨he, hV.on hb⟩
    rw [← ht] at hE ⊢
    clear ht
    go_upto_region 9 with (fail)
    refine wp_region_held_drew (S := (SuE w KB B7 B8 x0 t)) (by kernel_rfl) ?_ (fun hHeld => ?_)
    · (first | assumption | exact SuE.drew (by assumption))
    refine take_put (i := 0) (oi := _) (v := ?_) 26 rfl rfl (by kernel_rfl) (by kernel_rfl) (by kernel_rfl) (fun _ _ _ h => h) (Or.inl ⟨by rfl, ?hy0⟩) (by assumption) ?_
    case hy0 => ((intro W hSw); (try dsimp only at hSw); go_simp; try (with_reducible rfl))
    simp only [List.set_cons_zero, List.set_cons_succ]
    refine take_put (i := 1) (oi := _) (v := ?_) 27 rfl rfl (by kernel_rfl) (by kernel_rfl) (by kernel_rfl) (fun _ _ _ h => h) (Or.inl ⟨by rfl, ?hy1⟩) (by assumption) ?_
    case hy1 => ((intro W hSw); (try dsimp only at hSw); go_simp; try (with_reducible rfl))
    simp only [List.set_cons_zero, List.set_cons_succ]
    refine wpAnyH_ready (rs := [2]) (by kernel_rfl) (by simp) ?_
    refine AllReadyH.cons (o := _) rfl (fun K hK => ?_) AllReadyH.nil
    go_simp
    (with_reducible refine (S7.out _ ?_).mono ?_; (first | assumption | exact SuE.drew (by assumption)); rintro e r1 ⟨rfl, sv1⟩)
    refine hK.out _ _ ?_ (fun hHeld => ?_)
    · (first | assumption | exact SuE.drew (by assumption))
    clear hK K
    try simp only [Act.put, List.setIfInBounds_toArray, List.set_cons_zero, List.set_cons_succ]
    refine take_put (i := 3) (oi := _) (v := ?_) 29 rfl rfl (by kernel_rfl) (by kernel_rfl) (by kernel_rfl) (fun _ _ _ h => h) (Or.inl ⟨by rfl, ?hy3⟩) (by assumption) ?_
    case hy3 => ((intro W hSw); (try dsimp only at hSw); go_simp; try (with_reducible rfl))
    simp only [List.set_cons_zero, List.set_cons_succ]
    refine take_put (i := 4) (oi := _) (v := ?_) 30 rfl rfl (by kernel_rfl) (by kernel_rfl) (by kernel_rfl) (fun _ _ _ h => h) (Or.inl ⟨by rfl, ?hy4⟩) (by assumption) ?_
    case hy4 => ((intro W hSw); (try dsimp only at hSw); go_simp; try (with_reducible rfl))
    simp only [List.set_cons_zero, List.set_cons_succ]
    refine take_put (i := 5) (oi := _) (v := ?_) 31 rfl rfl (by kernel_rfl) (by kernel_rfl) (by kernel_rfl) (fun _ _ _ h => h) (Or.inl ⟨by rfl, ?hy5⟩) (by assumption) ?_
    case hy5 => ((intro W hSw); (try dsimp only at hSw); go_simp; try (with_reducible rfl))
    simp only [List.set_cons_zero, List.set_cons_succ]
    refine wpAnyH_ready (rs := [6]) (by kernel_rfl) (by simp) ?_
    refine AllReadyH.cons (o := _) rfl (fun K hK => ?_) AllReadyH.nil
    go_simp
    (with_reducible refine (S8.out _ ?_).mono ?_; (first | assumption | exact SuE.drew (by assumption)); rintro e r2 ⟨rfl, sv2⟩)
    refine hK.out _ _ ?_ (fun hHeld => ?_)
    · (first | assumption | exact SuE.drew (by assumption))
    clear hK K
    try simp only [Act.put, List.setIfInBounds_toArray, List.set_cons_zero, List.set_cons_succ]
    refine take_put (i := 7) (oi := _) (v := ?_) 33 rfl rfl (by kernel_rfl) (by kernel_rfl) (by kernel_rfl) (fun _ _ _ h => h) (Or.inl ⟨by rfl, ?hy7⟩) (by assumption) ?_
    case hy7 => ((intro W hSw); (try dsimp only at hSw); go_simp; try (with_reducible rfl))
    simp only [List.set_cons_zero, List.set_cons_succ]
    refine take_put (i := 8) (oi := _) (v := ?_) 34 rfl rfl (by kernel_rfl) (by kernel_rfl) (by kernel_rfl) (fun _ _ _ h => h) (Or.inl ⟨by rfl, ?hy8⟩) (by assumption) ?_
    case hy8 => ((intro W hSw); (try dsimp only at hSw); go_simp; try (with_reducible rfl))
    simp only [List.set_cons_zero, List.set_cons_succ]
    refine wpAnyH_ready (rs := [9]) (by kernel_rfl) (by simp) ?_
    refine AllReadyH.cons (o := _) rfl (fun K hK => ?_) AllReadyH.nil
    go_simp
    (with_reducible refine (SA.out _ ?_).mono ?_; (first | assumption | exact SuE.drew (by assumption)); rintro e r3 ⟨rfl, sv3⟩)
    refine hK.out _ _ ?_ (fun hHeld => ?_)
    · (first | assumption | exact SuE.drew (by assumption))
    clear hK K
    try simp only [Act.put, List.setIfInBounds_toArray, List.set_cons_zero, List.set_cons_succ]
    refine take_put (i := 10) (oi := _) (v := ?_) 36 rfl rfl (by kernel_rfl) (by kernel_rfl) (by kernel_rfl) (fun _ _ _ h => h) (Or.inl ⟨by rfl, ?hy10⟩) (by assumption) ?_
    case hy10 => ((intro W hSw); (try dsimp only at hSw); go_simp; try (with_reducible rfl))
    simp only [List.set_cons_zero, List.set_cons_succ]
    refine take_put (i := 11) (oi := _) (v := ?_) 4 rfl rfl (by kernel_rfl) (by kernel_rfl) (by kernel_rfl) (fun _ _ _ h => h) (Or.inl ⟨by rfl, ?hy11⟩) (by assumption) ?_
    case hy11 => ((intro W hSw); (try dsimp only at hSw); go_simp; try (with_reducible rfl))
    simp only [List.set_cons_zero, List.set_cons_succ]
    refine wpAnyH_done (by kernel_rfl) ?_ _
    go_wp2_with (fail)
    go_ret
    exact ⟨rfl, hHeld.low⟩
theorem own : ownKnob Try.prog.godebug = none := by kernel_rfl
theorem laidOut : laidOutB Try.prog = true := by kernel_rfl

set_option maxRecDepth 100000 in
theorem lifted (os : Os) (started : os.Started) (H : Type) (enc : TypeId × Value → H) :
    ReturnsInHanded {} Try.checked os 4 .any (Rows.polySumsSpec.pre6 enc Try.prog Try.f4 Rows.polySumsRow.domain false) (Rows.polySumsSpec.post enc Try.prog Try.f4 false true false false) := by
  refine returnsInHanded_of_change (C := Try.checked) own started (by kernel_rfl) Try.func4
    (ChangeSpec.witness6 (enc := enc) (C := Try.checked) false ⟨#[], #[.agg (List.replicate 32 (Value.int .u8 0)).toArray, .slice none 0 0], []⟩ 8 (by kernel_rfl) (by kernel_rfl) (by kernel_rfl) (by kernel_rfl)) ?_
  intro W base args ds gs before hval0 hW hcnd _
  have hval : ∀ (j : Nat) t v, Try.f4.params[j]? = some t → args[j]? = some v → Value.okWide Try.prog W .any base t v := hval0
  have hW' := hW
  obtain ⟨p, q, hA0, hV, rfl, hfz, hnd⟩ := hW
  have hA : DataW.TrodAll enc Try.prog W 0 (fun _ => true) true Try.f4.params.toList args.toList ds p := hA0
  rw [Try.params4] at hA hval
  obtain ⟨v0, vs0, dd0, ds0, p0, q0, hargs, rfl, rfl, h0, r0⟩ := trodAll_cons hA
  obtain ⟨v1, vs1, dd1, ds1, p1, q1, rfl, rfl, rfl, h1, r1⟩ := trodAll_cons r0
  obtain ⟨rfl, rfl, rfl⟩ := trodAll_nil r1
  obtain rfl : args = #[v0, v1] := by cases args; simp_all
  obtain ⟨rfl, rfl⟩ := trodVars_none hV
  have g0 := h0
  have lt0 : ∀ x ∈ p0, x.block < W.heap.size := by obtain ⟨m, hm⟩ := g0; exact DataW.trod_lt m _ _ _ hm
  obtain ⟨x0, rfl, l0⟩ := bytes_of_arr Try.underlying23 Try.underlying5 (by kernel_rfl) (by kernel_rfl) (hval 0 23 v0 rfl rfl) h0
  obtain ⟨A1, n1, c1, rfl⟩ := okWide_slice Try.underlying24 (hval 1 24 v1 rfl rfl)
  have g1 := h1
  have lt1 : ∀ x ∈ p1, x.block < W.heap.size := by obtain ⟨m, hm⟩ := g1; exact DataW.trod_lt m _ _ _ hm
  obtain ⟨x1, k1⟩ : ∃ xs, Rd W (.slice A1 n1 c1) xs := by
    obtain ⟨fuel, hf⟩ := h1
    rcases open_ints Try.underlying24 Try.underlying5 (by kernel_rfl) hf with ⟨hcs, _⟩ | ⟨x, l, c, zs, hcs, _, hl, hm, hz, _, hcell, hwz⟩
    · simp [Value.cells] at hcs
      obtain ⟨rfl, rfl, rfl⟩ := hcs
      exact ⟨[], Rd.nil W⟩
    · simp [Value.cells] at hcs
      obtain ⟨rfl, rfl, rfl⟩ := hcs
      exact rd_of_row hl hm (by simpa using hz) hcell hwz
  clear hA0 hval0
  refine (walk x0 _ x1 W l0 k1).mono fun e W' ⟨he, bel⟩ => ?_
  subst he
  exact ⟨_, rfl, _, _, _, [], _, [], hW', trodAll_mk1 (shut_bool Try.underlying4 _), (trodAll_cons_mk (Below.trod laidOut (by kernel_rfl) (of_decide_eq_true (by kernel_rfl)) g0 bel lt0) (trodAll_cons_mk (Below.trod laidOut (by kernel_rfl) (of_decide_eq_true (by kernel_rfl)) g1 bel lt1) trodAll_mk0)), rfl, bel.frame _, fun h => by cases h⟩

theorem over : Rows.polySumsRow.holds Try.pinned (OpenSpec.ofChange Rows.polySumsSpec) :=
  OpenClaim.holds_of_wide 4 Try.f4 rfl rfl rfl rfl rfl rfl rfl ⟨rfl, rfl, rfl, rfl, rfl⟩ rfl rfl rfl rfl rfl (by kernel_rfl) Try.func4 (by kernel_rfl)
    (of_decide_eq_true (by kernel_rfl)) (by unfold Func.isWrapper; first | (rw [if_pos (by decide +kernel)]; kernel_rfl) | (rw [if_neg (by decide +kernel)]; exact ⟨rfl, rfl⟩))
    (fun os started H enc _ => lifted os started H enc)

theorem proved : Rows.PolySumsSaid := over
#print axioms proved
end Go.Proofs.Ytlcpplnajaldgaa.polySums
