/- What is proved: 'PolyOnce' (law 5) returns true whatever comes in: by keys with one first half, the tags of one text differ as the second halves do, modulo 2^128; the arguments read afterwards as before.
   Conditions: none of its own. -/
import Derived.Test.YtlcpplnajaldgaaPTag
import Derived.Test.YtlcpplnajaldgaaPOnc
import Derived.Test.YtlcpplnajaldgaaStepL
import Derived.Test.YtlcpplnajaldgaaArrIn
import Derived.ProofKit
import Derived.OpenShut
import Derived.Carry
import Derived.Deep.Cut
namespace Go.Proofs.Ytlcpplnajaldgaa.polyOnce
open Go.ChangeShapes Go.WideShapes Go.ChangeAt Go.RowKit

theorem slice_info : (Try.prog.info? 24).map (fun i => (i.zero, i.size, i.bytes)) = some (some (.slice none 0 0), 1, 24) := by kernel_rfl
/-- What stands through the region of the two tags. -/
structure OnC (w : World) (KB MB OB : Nat) (k o mo : List UInt8) (v1 : Value) (x1 : List UInt8) (V : World) : Prop where
  low : Below w.heap.size w V
  kb : Blk V KB 23 (k.map bv)
  mb : Blk V MB 28 (mo.map bv)
  ob : Blk V OB 23 (o.map bv)
  rd : Rd V v1 x1
theorem OnC.on {w V V' : World} {KB MB OB : Nat} {k o mo : List UInt8} {v1 : Value} {x1 : List UInt8} (h : OnC w KB MB OB k o mo v1 x1 V) (hb : Below V.heap.size V V') : OnC w KB MB OB k o mo v1 x1 V' :=
  ⟨h.low.trans (hb.mono h.low.size), h.kb.below hb h.kb.lt, h.mb.below hb h.mb.lt, h.ob.below hb h.ob.lt, h.rd.below hb⟩
/-- A new array for a tag. -/
def NewT (B0 : Nat) (v : Value) (V : World) : Prop := ∃ B, v = .pointer (some ⟨B, 0, none⟩) ∧ B0 ≤ B ∧ Blk V B 29 (List.replicate 16 (Value.int .u8 0))
theorem NewT.on {V V' : World} {B0 : Nat} {v : Value} (h : NewT B0 v V) (hb : Below V.heap.size V V') : NewT B0 v V' := by
  obtain ⟨B, h1, h2, h3⟩ := h
  exact ⟨B, h1, h2, h3.below hb h3.lt⟩
theorem NewT.blk {V : World} {B0 : Nat} {v : Value} (h : NewT B0 v V) : ∃ b, blkOf v = some b ∧ b < V.heap.size := by
  obtain ⟨B, rfl, _, h3⟩ := h
  exact ⟨B, rfl, h3.lt⟩
def onD (k : Nat) : Nat := [42, 43, 44, 45, 46, 47, 48, 49, 10, 11].getD k 0
def onFr (k : Nat) : Bool := decide (k = 8) || decide (k = 9)
/-- What each operation has left. -/
def onF (B0 : Nat) (k o : List UInt8) (v1 : Value) (x1 : List UInt8) (i : Nat) (v : Value) (V : World) : Prop :=
  match i with
  | 0 => v = .agg (k.map bv).toArray
  | 1 => v = v1
  | 2 => Rs V v [x1]
  | 3 => v = .agg ((tagB k x1).map bv).toArray
  | 4 => v = .agg (o.map bv).toArray
  | 5 => v = v1
  | 6 => Rs V v [x1]
  | 7 => v = .agg ((tagB o x1).map bv).toArray
  | 8 => NewT B0 v V
  | 9 => NewT B0 v V
  | _ => True
theorem onF.on {V V' : World} {B0 : Nat} {k o : List UInt8} {v1 : Value} {x1 : List UInt8} {i : Nat} {v : Value} (hb : Below V.heap.size V V') (h : onF B0 k o v1 x1 i v V) : onF B0 k o v1 x1 i v V' := by
  match i, h with
  | 0, h => exact h
  | 1, h => exact h
  | 2, h => exact Rs.below h hb
  | 3, h => exact h
  | 4, h => exact h
  | 5, h => exact h
  | 6, h => exact Rs.below h hb
  | 7, h => exact h
  | 8, h => exact NewT.on h hb
  | 9, h => exact NewT.on h hb
  | n + 10, _ => exact trivial
theorem onD_inj : ∀ j k, j < 10 → k < 10 → onD j = onD k → j = k := fun j k hj hk => (by decide : ∀ j, j < 10 → ∀ k, k < 10 → onD j = onD k → j = k) j hj k hk
theorem onFr_blk {V : World} {B0 : Nat} {k o : List UInt8} {v1 : Value} {x1 : List UInt8} : ∀ (i : Nat) (u : Value), i < 10 → onFr i = true → onF B0 k o v1 x1 i u V → ∃ b, blkOf u = some b ∧ b < V.heap.size := fun i u _ hf h => by
  have hi : i = 8 ∨ i = 9 := by simpa [onFr] using hf
  rcases hi with rfl | rfl
  · exact NewT.blk h
  · exact NewT.blk h
set_option maxRecDepth 100000 in
set_option maxHeartbeats 2000000 in
theorem walk (x0 mo : List UInt8) (v1 : Value) (x1 : List UInt8) (w : World) (l0 : x0.length = 32) (l1 : mo.length = 16) (k2 : Rd w v1 x1) :
    Calls Try.prog 7 #[.agg (x0.map bv).toArray, .agg (mo.map bv).toArray, v1] w fun e w' => e = .returned (.bool true) ∧ Below w.heap.size w w' := by
  obtain ⟨A, c, rfl, hc1, hc2, _⟩ := k2.form
  have R1 := Lib.hid k2
  have HIK : Hid ((Try.prog.info? 23).map (·.size) = some 32) := by show _ = _; kernel_rfl
  have HIT : Hid ((Try.prog.info? 29).map (·.size) = some 16) := by show _ = _; kernel_rfl
  unfold maxLen at hc2
  have L0 := Lib.hid l0
  have L2 := Lib.hid l1
  have HKM : Hid ((x0.map bv).length = 32) := by show _ = _; rw [List.length_map, l0]
  obtain ⟨W1, hW1⟩ : ∃ W : World, W = (w.alloc (.cells (x0.map bv).toArray 23)).alloc (.cells (mo.map bv).toArray 28) := ⟨_, rfl⟩
  have S1 : Hid (W1.heap.size = w.heap.size + 1 + 1) := Lib.hid (by rw [hW1]; simp)
  have K1 : Hid (Blk W1 w.heap.size 23 (x0.map bv)) := Lib.hid (by rw [hW1]; exact (Blk.made w _ _).alloc _)
  have B1 : Hid (Blk W1 (w.heap.size + 1) 28 (mo.map bv)) := Lib.hid (by
    have h := Blk.made (w.alloc (.cells (x0.map bv).toArray 23)) 28 (mo.map bv)
    rw [World.size_alloc] at h
    rw [hW1]
    exact h)
  have D1 : Hid (Below w.heap.size w W1) := Lib.hid (by rw [hW1]; exact ((Below.refl _ _).alloc (Nat.le_refl _) _).alloc (by simp) _)
  clear k2 l0 l1
  by_cases h0 : 300 < x1.length
  · have lI : (300 : Int) < (x1.length : Int) := by omega
    subst hW1
    go_enter Try.func7, Try.ntmps7
    go_wp2_with (first
      | refine Go.Great.wpList_boxTo rfl _ _ rfl _ rfl w.heap.size rfl ((x0.map bv).toArray) rfl ?_
      | refine Go.Great.wpList_boxTo rfl _ _ rfl _ rfl (w.heap.size + 1) (by simp) ((mo.map bv).toArray) rfl ?_)
    refine (polAwake_any tagc _).mono ?_
    rintro e w3 ⟨rfl, hb3⟩
    go_wp2_with (fail)
    go_ret
    exact ⟨rfl, D1.out.trans (hb3.mono D1.out.size)⟩
  have lI0 : (x1.length : Int) ≤ 300 := by omega
  have HL : Hid (x1.length ≤ 300) := Lib.hid (by omega)
  have O1 : Hid (Blk (W1.alloc (.cells (List.replicate 32 (Value.int .u8 0)).toArray 23)) W1.heap.size 23 (List.replicate 32 (Value.int .u8 0))) := Lib.hid (Blk.made W1 _ _)
  go_enter Try.func7, Try.ntmps7
  go_upto_region 1 with (first
    | refine Go.Great.wpList_boxTo rfl _ _ rfl _ rfl w.heap.size rfl ((x0.map bv).toArray) rfl ?_
    | refine Go.Great.wpList_boxTo rfl _ _ rfl _ rfl (w.heap.size + 1) (by simp) ((mo.map bv).toArray) rfl ?_)
  rw [← hW1]
  clear hW1
  go_wp2_with (first
    | (refine wpList_load_blk rfl 23 (.tmp 3) rfl w.heap.size rfl 23 (x0.map bv) _ K1.out Try.underlying23 rfl (by rw [HKM.out]; exact HIK.out) ?_)
    | (refine wpList_store_blk rfl 23 (.tmp 7) (.tmp 17) rfl W1.heap.size 23 _ O1.out (x0.map bv) rfl rfl (by rw [HKM.out]; rfl) (by rw [HKM.out]; exact HIK.out) (bv_one _) ?_
       intro w3 hb3 hs3))
  have O3 := Lib.hid hb3
  have SS := S1.out
  have K3 := Lib.hid (hs3.blk (K1.out.alloc _) (by omega))
  have B3 := Lib.hid (hs3.blk (B1.out.alloc _) (by omega))
  have D3 : Hid (Below w.heap.size w w3) := Lib.hid ((D1.out.alloc D1.out.size _).trans (hs3.below.mono (by omega)))
  clear hb3 hs3 O1
  refine ona_loop _ _ _ _ _ _ _ _ _ _ _ _ _ _ _ _ _ _ _ _ _ _ _ _ _ _ _ _ _ _ _ _ _ _ _ _ _ _ _ _ _ _ _ _ _ _ _ _ _ _ _ _ _ _ _ _ _ _ _ _ _ _ _ _ _ _ _ _ _ _ w.heap.size (w.heap.size + 1) W1.heap.size 28 x0 mo w3 L0 L2 (by omega) (by omega) K3 B3 O3 (Lib.hid ?_)
  intro u8 u9 u18 u19 u20 u21 u22 u23 u24 u25 u26 u27 u28 u29 u30 u31 u32 u33 u34 u35 u36 u37 u38 u39 u40 u41 w4 hb4 hs4
  have SS := S1.out
  have K4 := Lib.hid (hs4.out.blk K3.out (by omega))
  have B4 := Lib.hid (hs4.out.blk B3.out (by omega))
  have D4 : Hid (Below w.heap.size w w4) := Lib.hid (D3.out.trans (hs4.out.below.mono (by omega)))
  obtain ⟨o, ho⟩ : ∃ o, o = onceK x0 (numB mo) 16 := ⟨_, rfl⟩
  rw [← ho] at hb4
  have LO : Hid (o.length = 32) := Lib.hid (by rw [ho]; exact onceK_length L0.out (by omega))
  have HOM : Hid ((o.map bv).length = 32) := Lib.hid (by rw [List.length_map]; exact LO.out)
  have HTO : Hid (tagB o x1 = leB 16 (numB (tagB x0 x1) + numB mo)) := Lib.hid (tag_once x1 (by rw [ho]; exact onceK_take L0.out) (by rw [ho]; exact onceK_drop L0.out))
  obtain ⟨KB, hKB⟩ : ∃ B, B = w.heap.size := ⟨_, rfl⟩
  obtain ⟨MB, hMB⟩ : ∃ B, B = w.heap.size + 1 := ⟨_, rfl⟩
  obtain ⟨OB, hOB⟩ : ∃ B, B = W1.heap.size := ⟨_, rfl⟩
  have hC : OnC w KB MB OB x0 o mo (.slice A x1.length c) x1 w4 := ⟨D4.out, by rw [hKB]; exact K4.out, by rw [hMB]; exact B4.out, by rw [hOB]; exact hb4.out, R1.out.below D4.out⟩
  have HLT : Hid (w.heap.size ≤ KB ∧ KB < OB ∧ MB < OB ∧ w.heap.size ≤ OB) := Lib.hid (by omega)
  obtain ⟨i0, hi0, hz0, hz1, hz2⟩ := info_parts slice_info
  rw [← hMB, ← hKB, ← hOB]
  clear hKB hMB hOB hb4 hs4 K4 B4 D4 K3 B3 D3 O3 K1 B1 D1 S1 SS R1 ho
  go_upto_region 11 with (fail)
  refine wp_region_any (by kernel_rfl) ?_
  change wpAny _ _ _ _ (10 + 2) (lst (List.replicate 10 false) 2) _ w4.drew
  refine wpAny_first 10 2 rfl (by kernel_rfl) (by kernel_rfl) (Inv 10 _ onD onFr (onF (OB + 1) x0 o (.slice A x1.length c) x1) (OnC w KB MB OB x0 o mo (.slice A x1.length c) x1)) ?hstep ?hfin 10 (List.replicate 10 false) _ _ rfl rfl (Inv.start 10 _ onD onFr _ _ _ (hC.on (Below.refl _ _).drew))
  case hstep =>
    intro i oo hi ho L a V hl hI hun hdep K hK
    have hsz : ∀ i, i < 10 → onD i < 75 := by decide
    have nx : ∀ (v : Value) (V' : World), Below V.heap.size V V' → onF (OB + 1) x0 o (.slice A x1.length c) x1 i v V' → (onFr i = true → ∃ b, blkOf v = some b ∧ V.heap.size ≤ b) → K (a.put (some (onD i)) v) V' := fun v V' hb hv hf => hK _ _ (hI.next hi onD_inj (hsz i hi) (hI.core.on hb) (fun k u _ _ h => onF.on hb h) hv hf onFr_blk)
    clear hsz
    match i, hi with
    | 0, _ =>
      obtain rfl := Option.some.inj ho
      exact step_load_blk rfl 23 (.tmp 3) rfl KB ((hI.eval (by decide)).trans rfl) 23 (x0.map bv) _ hI.core.kb Try.underlying23 rfl (by rw [HKM.out]; exact HIK.out) (nx _ _ (Below.refl _ _) rfl (fun h => by cases h))
    | 1, _ =>
      obtain rfl := Option.some.inj ho
      exact step_move rfl (.tmp 2) rfl (nx _ _ (Below.refl _ _) ((hI.eval (by decide)).trans rfl) (fun h => by cases h))
    | 2, _ =>
      obtain rfl := Option.some.inj ho
      have h1 : a.tmps.getD 43 undef = .slice A x1.length c := hI.got 1 (by omega) (hdep _ (Array.mem_of_getElem? (i := 0) rfl) rfl)
      exact step_build1 rfl 44 24 (.tmp 43) rfl i0 _ _ Try.underlying44 hi0 hz0 hz1 rfl h1 rfl (nx _ _ ((Below.refl _ _).alloc (Nat.le_refl _) _) (rs_lit1 hI.core.rd) (fun h => by cases h))
    | 3, _ =>
      obtain rfl := Option.some.inj ho
      have h0 : a.tmps.getD 42 undef = .agg (x0.map bv).toArray := hI.got 0 (by omega) (hdep _ (Array.mem_of_getElem? (i := 0) rfl) rfl)
      have h2 : Rs V (a.tmps.getD 44 undef) [x1] := hI.got 2 (by omega) (hdep _ (Array.mem_of_getElem? (i := 1) rfl) rfl)
      refine step_call rfl 12 _ _ rfl (enters_of Try.func12 (by kernel_rfl) rfl) #[arrV x0, a.tmps.getD 44 undef] (by simp only [List.map_toArray, List.map_cons, List.map_nil, Act.eval, h0]; rfl) ((tagc x0 _ [x1] V L0.out (.inl h2) (by simp) (by simpa using HL.out)).mono ?_)
      rintro e V' ⟨rfl, hb⟩
      refine nx _ _ hb ?_ (fun h => by cases h)
      show arrV (tagB x0 [x1].flatten) = _
      rw [List.flatten_singleton]
      rfl
    | 4, _ =>
      obtain rfl := Option.some.inj ho
      exact step_load_blk rfl 23 (.tmp 7) rfl OB ((hI.eval (by decide)).trans rfl) 23 (o.map bv) _ hI.core.ob Try.underlying23 rfl (by rw [HOM.out]; exact HIK.out) (nx _ _ (Below.refl _ _) rfl (fun h => by cases h))
    | 5, _ =>
      obtain rfl := Option.some.inj ho
      exact step_move rfl (.tmp 2) rfl (nx _ _ (Below.refl _ _) ((hI.eval (by decide)).trans rfl) (fun h => by cases h))
    | 6, _ =>
      obtain rfl := Option.some.inj ho
      have h1 : a.tmps.getD 47 undef = .slice A x1.length c := hI.got 5 (by omega) (hdep _ (Array.mem_of_getElem? (i := 0) rfl) rfl)
      exact step_build1 rfl 44 24 (.tmp 47) rfl i0 _ _ Try.underlying44 hi0 hz0 hz1 rfl h1 rfl (nx _ _ ((Below.refl _ _).alloc (Nat.le_refl _) _) (rs_lit1 hI.core.rd) (fun h => by cases h))
    | 7, _ =>
      obtain rfl := Option.some.inj ho
      have h0 : a.tmps.getD 46 undef = .agg (o.map bv).toArray := hI.got 4 (by omega) (hdep _ (Array.mem_of_getElem? (i := 0) rfl) rfl)
      have h2 : Rs V (a.tmps.getD 48 undef) [x1] := hI.got 6 (by omega) (hdep _ (Array.mem_of_getElem? (i := 1) rfl) rfl)
      refine step_call rfl 12 _ _ rfl (enters_of Try.func12 (by kernel_rfl) rfl) #[arrV o, a.tmps.getD 48 undef] (by simp only [List.map_toArray, List.map_cons, List.map_nil, Act.eval, h0]; rfl) ((tagc o _ [x1] V LO.out (.inl h2) (by simp) (by simpa using HL.out)).mono ?_)
      rintro e V' ⟨rfl, hb⟩
      refine nx _ _ hb ?_ (fun h => by cases h)
      show arrV (tagB o [x1].flatten) = _
      rw [List.flatten_singleton]
      rfl
    | 8, _ =>
      obtain rfl := Option.some.inj ho
      go_simp
      exact nx (.pointer (some ⟨V.heap.size, 0, none⟩)) _ ((Below.refl _ _).alloc (Nat.le_refl _) _) ⟨V.heap.size, rfl, hI.core.ob.lt, Blk.made V _ _⟩ (fun _ => ⟨_, rfl, Nat.le_refl _⟩)
    | 9, _ =>
      obtain rfl := Option.some.inj ho
      go_simp
      exact nx (.pointer (some ⟨V.heap.size, 0, none⟩)) _ ((Below.refl _ _).alloc (Nat.le_refl _) _) ⟨V.heap.size, rfl, hI.core.ob.lt, Blk.made V _ _⟩ (fun _ => ⟨_, rfl, Nat.le_refl _⟩)
  case hfin =>
    intro a V hI
    obtain ⟨u, rfl, hu, hap⟩ := hI.form
    have e3 : u 3 = .agg ((tagB x0 x1).map bv).toArray := hu 3 (by omega) rfl
    have e5 : u 7 = .agg ((tagB o x1).map bv).toArray := hu 7 (by omega) rfl
    obtain ⟨B7, e6, hB7, hb7⟩ : NewT (OB + 1) (u 8) V := hu 8 (by omega) rfl
    obtain ⟨B8, e7, hB8, hb8⟩ : NewT (OB + 1) (u 9) V := hu 9 (by omega) rfl
    have hne : B7 ≠ B8 := by
      have h := hap 8 9 (by omega) (by omega) (by omega) rfl rfl rfl rfl
      rw [e6, e7] at h
      intro e
      exact h (by rw [e])
    have hCV := hI.core
    clear hI hap hu
    simp only [putAll, show List.range 10 = [0, 1, 2, 3, 4, 5, 6, 7, 8, 9] from rfl, List.foldl_cons, List.foldl_nil, show onD 0 = 42 from rfl, show onD 1 = 43 from rfl, show onD 2 = 44 from rfl, show onD 3 = 45 from rfl, show onD 4 = 46 from rfl, show onD 5 = 47 from rfl, show onD 6 = 48 from rfl, show onD 7 = 49 from rfl, show onD 8 = 10 from rfl, show onD 9 = 11 from rfl, List.setIfInBounds_toArray, List.set_cons_succ, List.set_cons_zero, e3, e5, e6, e7]
    have HB7 := Lib.hid hb7
    have HB8 := Lib.hid hb8
    have HNE := Lib.hid hne
    obtain ⟨tx, htx⟩ : ∃ t, t = tagB x0 x1 := ⟨_, rfl⟩
    obtain ⟨ty, hty⟩ : ∃ t, t = tagB o x1 := ⟨_, rfl⟩
    have HTX : Hid (tx.length = 16) := Lib.hid (by rw [htx, tagB_length])
    have HTXM : Hid ((tx.map bv).length = 16) := Lib.hid (by rw [List.length_map]; exact HTX.out)
    have HTYM : Hid ((ty.map bv).length = 16) := Lib.hid (by rw [List.length_map, hty, tagB_length])
    have HTY : Hid (ty = leB 16 (numB tx + numB mo)) := Lib.hid (by rw [hty, htx]; exact HTO.out)
    have HC2 := Lib.hid hCV
    have HLU : Hid (w.heap.size ≤ B7 ∧ w.heap.size ≤ B8 ∧ MB ≠ B7 ∧ MB ≠ B8) := Lib.hid (by have := HLT.out; omega)
    rw [← htx, ← hty]
    clear hb7 hb8 hne hCV e3 e5 e6 e7 hB7 hB8 htx hty HTO
    refine wpAny_of_held (S := fun _ => True) _ _ _ _ ?_
    refine wpAnyH_ready (rs := [10]) (by kernel_rfl) (by simp) ?_
    refine AllReadyH.cons (o := _) rfl (fun K hK => ?_) AllReadyH.nil
    refine step_store_arr rfl 29 (.tmp 10) (.tmp 45) rfl B7 29 _ HB7.out (tx.map bv) rfl rfl (by rw [HTXM.out]; rfl) (by rw [HTXM.out]; exact HIT.out) (bv_one _) ?_
    intro V1 hv1 hs1
    refine hK.out _ _ trivial (fun _ => ?_)
    clear hK K
    try simp only [Act.put, List.setIfInBounds_toArray]
    refine wpAnyH_ready (rs := [11]) (by kernel_rfl) (by simp) ?_
    refine AllReadyH.cons (o := _) rfl (fun K hK => ?_) AllReadyH.nil
    refine step_store_arr rfl 29 (.tmp 11) (.tmp 49) rfl B8 29 _ (hs1.blk HB8.out HNE.out.symm) (ty.map bv) rfl rfl (by rw [HTYM.out]; rfl) (by rw [HTYM.out]; exact HIT.out) (bv_one _) ?_
    intro V2 hv2 hs2
    refine hK.out _ _ trivial (fun _ => ?_)
    clear hK K
    try simp only [Act.put]
    refine wpAnyH_done (by kernel_rfl) ?_ _
    have h := HLU.out
    have D5 : Hid (Below w.heap.size w V2) := Lib.hid (HC2.out.low.trans ((hs1.below.mono (by omega)).trans (hs2.below.mono (by omega))))
    have M5 := Lib.hid (hs2.blk (hs1.blk HC2.out.mb (by omega)) (by omega))
    have X5 := Lib.hid (hs2.blk hv1 HNE.out)
    have Y5 : Hid (Blk V2 B8 29 ((leB 16 (numB tx + numB mo)).map bv)) := Lib.hid (by rw [← HTY.out]; exact hv2)
    clear HC2 HB7 HB8 hs1 hs2 hv1 hv2 h
    go_wp2_with (fail)
    refine onb_loop _ _ _ _ _ _ _ _ _ _ _ _ _ _ _ _ _ _ _ _ _ _ _ _ _ _ _ _ _ _ _ _ _ _ _ _ _ _ _ _ _ _ _ _ _ _ _ _ _ _ _ _ _ _ _ _ _ _ _ _ _ _ _ _ _ _ _ _ _ _ MB B7 B8 28 29 29 mo tx V2 L2 HTX M5 X5 Y5 (Lib.hid ?_)
    intro u6 u8 u12 u50 u51 u52 u53 u54 u55 u56 u57 u58 u59 u60 u61 u62 u63 u64 u65 u66 u67 u68 u69 u70 u71 u72 u73 m
    go_wp2_with (fail)
    refine (polAwake_any tagc _).mono ?_
    rintro e w9 ⟨rfl, hb9⟩
    go_wp2_with (fail)
    go_ret
    exact ⟨rfl, (below_drewN D5.out m).trans (hb9.mono D5.out.size)⟩
theorem own : ownKnob Try.prog.godebug = none := by kernel_rfl
theorem laidOut : laidOutB Try.prog = true := by kernel_rfl

set_option maxRecDepth 100000 in
theorem lifted (os : Os) (started : os.Started) (H : Type) (enc : TypeId × Value → H) :
    ReturnsInHanded {} Try.checked os 7 .any (Rows.polyOnceSpec.pre6 enc Try.prog Try.f7 Rows.polyOnceRow.domain false) (Rows.polyOnceSpec.post enc Try.prog Try.f7 false true false false) := by
  refine returnsInHanded_of_change (C := Try.checked) own started (by kernel_rfl) Try.func7
    (ChangeSpec.witness6 (enc := enc) (C := Try.checked) false ⟨#[], #[.agg (List.replicate 32 (Value.int .u8 0)).toArray, .agg (List.replicate 16 (Value.int .u8 0)).toArray, .slice none 0 0], []⟩ 8 (by kernel_rfl) (by kernel_rfl) (by kernel_rfl) (by kernel_rfl)) ?_
  intro W base args ds gs before hval0 hW hcnd _
  have hval : ∀ (j : Nat) t v, Try.f7.params[j]? = some t → args[j]? = some v → Value.okWide Try.prog W .any base t v := hval0
  have hW' := hW
  obtain ⟨p, q, hA0, hV, rfl, hfz, hnd⟩ := hW
  have hA : DataW.TrodAll enc Try.prog W 0 (fun _ => true) true Try.f7.params.toList args.toList ds p := hA0
  rw [Try.params7] at hA hval
  obtain ⟨v0, vs0, dd0, ds0, p0, q0, hargs, rfl, rfl, h0, r0⟩ := trodAll_cons hA
  obtain ⟨v1, vs1, dd1, ds1, p1, q1, rfl, rfl, rfl, h1, r1⟩ := trodAll_cons r0
  obtain ⟨v2, vs2, dd2, ds2, p2, q2, rfl, rfl, rfl, h2, r2⟩ := trodAll_cons r1
  obtain ⟨rfl, rfl, rfl⟩ := trodAll_nil r2
  obtain rfl : args = #[v0, v1, v2] := by cases args; simp_all
  obtain ⟨rfl, rfl⟩ := trodVars_none hV
  have g0 := h0
  have lt0 : ∀ x ∈ p0, x.block < W.heap.size := by obtain ⟨m, hm⟩ := g0; exact DataW.trod_lt m _ _ _ hm
  obtain ⟨x0, rfl, l0⟩ := bytes_of_arr Try.underlying23 Try.underlying5 (by kernel_rfl) (by kernel_rfl) (hval 0 23 v0 rfl rfl) h0
  have g1 := h1
  have lt1 : ∀ x ∈ p1, x.block < W.heap.size := by obtain ⟨m, hm⟩ := g1; exact DataW.trod_lt m _ _ _ hm
  obtain ⟨x1, rfl, l1⟩ := bytes_of_arr Try.underlying28 Try.underlying5 (by kernel_rfl) (by kernel_rfl) (hval 1 28 v1 rfl rfl) h1
  obtain ⟨A2, n2, c2, rfl⟩ := okWide_slice Try.underlying24 (hval 2 24 v2 rfl rfl)
  have g2 := h2
  have lt2 : ∀ x ∈ p2, x.block < W.heap.size := by obtain ⟨m, hm⟩ := g2; exact DataW.trod_lt m _ _ _ hm
  obtain ⟨x2, k2⟩ : ∃ xs, Rd W (.slice A2 n2 c2) xs := by
    obtain ⟨fuel, hf⟩ := h2
    rcases open_ints Try.underlying24 Try.underlying5 (by kernel_rfl) hf with ⟨hcs, _⟩ | ⟨x, l, c, zs, hcs, _, hl, hm, hz, _, hcell, hwz⟩
    · simp [Value.cells] at hcs
      obtain ⟨rfl, rfl, rfl⟩ := hcs
      exact ⟨[], Rd.nil W⟩
    · simp [Value.cells] at hcs
      obtain ⟨rfl, rfl, rfl⟩ := hcs
      exact rd_of_row hl hm (by simpa using hz) hcell hwz
  clear hA0 hval0
  refine (walk x0 x1 _ x2 W l0 l1 k2).mono fun e W' ⟨he, bel⟩ => ?_
  subst he
  exact ⟨_, rfl, _, _, _, [], _, [], hW', trodAll_mk1 (shut_bool Try.underlying4 _), (trodAll_cons_mk (Below.trod laidOut (by kernel_rfl) (of_decide_eq_true (by kernel_rfl)) g0 bel lt0) (trodAll_cons_mk (Below.trod laidOut (by kernel_rfl) (of_decide_eq_true (by kernel_rfl)) g1 bel lt1) (trodAll_cons_mk (Below.trod laidOut (by kernel_rfl) (of_decide_eq_true (by kernel_rfl)) g2 bel lt2) trodAll_mk0))), rfl, bel.frame _, fun h => by cases h⟩

theorem over : Rows.polyOnceRow.holds Try.pinned (OpenSpec.ofChange Rows.polyOnceSpec) :=
  OpenClaim.holds_of_wide 7 Try.f7 rfl rfl rfl rfl rfl rfl rfl ⟨rfl, rfl, rfl, rfl, rfl⟩ rfl rfl rfl rfl rfl (by kernel_rfl) Try.func7 (by kernel_rfl)
    (of_decide_eq_true (by kernel_rfl)) (by unfold Func.isWrapper; first | (rw [if_pos (by decide +kernel)]; kernel_rfl) | (rw [if_neg (by decide +kernel)]; exact ⟨rfl, rfl⟩))
    (fun os started H enc _ => lifted os started H enc)

theorem proved : Rows.PolyOnceSaid := over
#print axioms proved
end Go.Proofs.Ytlcpplnajaldgaa.polyOnce
