/- Part 33 of the words that the laws share: PTag. No condition of its own: each theorem says its own. -/
import Derived.Test.YtmoffodmbbkolaaDoorPart31
import Derived.Test.YtmoffodmbbkolaaDoorPart28
import Derived.Test.YtmoffodmbbkolaaDoorPart32
import Derived.Test.YtmoffodmbbkolaaDoorPart6
import Derived.Test.YtmoffodmbbkolaaDoorPart11
import Derived.Deep.RegionHeld3

/- The contract of poly.Tag: the tag of all parts' bytes, one behind the other. Conditions: a key of 32 bytes; at most 1000 parts of at most 1000000 bytes in all. -/
namespace Go.Proofs.YtmoffodmbbkolaaDoor
open Go.RowKit Go.Shelf

theorem blks_any (Ad : Option Addr) (n c : Nat) (w : World) :
    Calls Tryd.prog 41 #[.slice Ad n c] w fun e w' => e = .returned (.func (.func 50) #[] #[.pointer (some ⟨w.heap.size, 0, none⟩)]) ∧ w' = w.alloc (.cells #[.slice Ad n c] 78) := by
  go_enter Tryd.func41, Tryd.ntmps41
  go_wp2_with (fail)
  go_ret
  exact ⟨rfl, rfl⟩
/-- A whole array is loaded out of a block that is known whole, at a step of a region that draws its order. -/
theorem step_load_blk {P : Program} {ops : Array Oper} {o : Oper} {a : Act} {w : World} {K : Act → World → Prop} {Q : Exit → Act → World → Prop} {E : Prop} (hgd : o.guard = none) (ty : TypeId) (x : Operand) (ho : o.op = .load ty x)
    (B : Nat) (hx : a.eval x = .pointer (some ⟨B, 0, none⟩)) (t : TypeId) (cs : List Value) (d : TypeDesc) (hb : Blk w B t cs)
    (hu : P.underlying ty = some d) (hd : (match d with | .struct _ | .array _ _ => true | _ => false) = true) (hi : (P.info? ty).map (·.size) = some cs.length)
    (h : K (a.put o.dst (.agg cs.toArray)) w) : if Region.wanted o (yielded ops a.tmps) = true then Oper.wp P o a w K Q else E := by
  have hw : Region.wanted o (yielded ops a.tmps) = true := by simp [Region.wanted, hgd]
  rw [if_pos hw]
  exact wp_load_row ty x ho B hx t cs.toArray (0, 0) d hb hu hd (by simpa using hi) h
/-- A whole array is stored into a block that is known whole, at such a step. -/
theorem step_store_arr {P : Program} {ops : Array Oper} {o : Oper} {a : Act} {w : World} {K : Act → World → Prop} {Q : Exit → Act → World → Prop} {E : Prop} (hgd : o.guard = none) (ty : TypeId) (x y : Operand) (ho : o.op = .store ty x y)
    (B : Nat) (t : TypeId) (old : List Value) (hb : Blk w B t old) (cs : List Value) (hx : a.eval x = .pointer (some ⟨B, 0, none⟩)) (hy : a.eval y = .agg cs.toArray)
    (hl : cs.length = old.length) (hi : (P.info? ty).map (·.size) = some cs.length) (h1 : ∀ v ∈ cs, v.oneCell' = true)
    (h : ∀ w', Blk w' B t cs → Sole w w' B → K (a.put o.dst undef) w') : if Region.wanted o (yielded ops a.tmps) = true then Oper.wp P o a w K Q else E := by
  have hw : Region.wanted o (yielded ops a.tmps) = true := by simp [Region.wanted, hgd]
  rw [if_pos hw]
  refine wp_store_mid ty x y ho B 0 cs.toArray hx hy (hb.there (by simp; omega)) (by simpa using hi) (all_oneCell_toArray h1) (h _ ?_ (Sole.setCells B _ 0 w))
  have h2 := hb.lay cs.toArray.toList 0
  rw [layL_all (by simpa using hl)] at h2
  exact h2
theorem Blk.range {V : World} {B : Nat} {t : TypeId} {cs : List Value} (h : Blk V B t cs) : V.rangeAt B 0 cs := fun j v hv => by
  rw [Nat.zero_add, h.cell j]
  exact hv
theorem fold_one (p : Tmp) (v : Value) (tm : Array Value) : ((#[p] : Array Tmp).zip #[v]).foldl (fun t (p, v) => t.setIfInBounds p v) tm = tm.setIfInBounds p v := by simp
/-- What the walk behind the loop carries along. -/
structure TgE (w : World) (R D : Nat) (ss sa : List Nat) (V : World) : Prop where
  low : Below w.heap.size w V
  m : Blk V (R + 1 + 1) 80 (ss.map wq)
  s : Blk V (R + 1) 80 (sa.map wq)
  lt : D < V.heap.size
  d : V.heap[D]? = some (.deferred (some []))
theorem TgE.on {w V V' : World} {R D : Nat} {ss sa : List Nat} (h : TgE w R D ss sa V) (hb : Below V.heap.size V V') : TgE w R D ss sa V' :=
  ⟨h.low.trans (hb.mono h.low.size), h.m.below hb h.m.lt, h.s.below hb h.s.lt, Nat.lt_of_lt_of_le h.lt hb.size, (hb.block _ h.lt).trans h.d⟩
/-- What Tag keeps between two rounds: so many blocks are reckoned in. -/
def TgJ (w : World) (R : Nat) (k m : List UInt8) (ra sa : List Nat) (j : Nat) (A : World) : Prop :=
  Below w.heap.size w A ∧ Blk A (w.heap.size + 1) 49 (List.replicate 16 (Value.int .u8 0)) ∧ Blk A R 80 (ra.map wq) ∧ Blk A (R + 1) 80 (sa.map wq) ∧ ∃ ss : List Nat, RedP ss ∧ lv ss % p130 = polyN (rN k) m j ∧ Blk A (R + 1 + 1) 80 (ss.map wq)
theorem TgJ.on {w A B : World} {R j E : Nat} {k m : List UInt8} {ra sa : List Nat} (h : TgJ w R k m ra sa j A) (hw : w.heap.size + 1 < R) (hE : R + 1 + 1 < E) (hb : Below E A B) : TgJ w R k m ra sa j B := by
  obtain ⟨h1, h2, h3, h4, ss, h5, h6, h7⟩ := h
  exact ⟨h1.trans (hb.mono (by omega)), h2.below hb (by omega), h3.below hb (by omega), h4.below hb (by omega), ss, h5, h6, h7.below hb hE⟩
/-- What the walk of a round carries along, but for the sum. -/
structure TgS (w : World) (R E B8 : Nat) (ra sa bs : List Nat) (A V : World) : Prop where
  low : Below w.heap.size w V
  t : Blk V (w.heap.size + 1) 49 (List.replicate 16 (Value.int .u8 0))
  r : Blk V R 80 (ra.map wq)
  s : Blk V (R + 1) 80 (sa.map wq)
  b : Blk V B8 80 (bs.map wq)
  size : A.heap.size ≤ V.heap.size
  same : ∀ k, E ≤ k → k < A.heap.size → V.heap[k]? = A.heap[k]?
theorem TgS.on {w A V V' : World} {R E B8 : Nat} {ra sa bs : List Nat} (h : TgS w R E B8 ra sa bs A V) (hb : Below V.heap.size V V') : TgS w R E B8 ra sa bs A V' :=
  ⟨h.low.trans (hb.mono h.low.size), h.t.below hb h.t.lt, h.r.below hb h.r.lt, h.s.below hb h.s.lt, h.b.below hb h.b.lt, Nat.le_trans h.size hb.size, fun k h1 h2 => (hb.block k (Nat.lt_of_lt_of_le h2 h.size)).trans (h.same k h1 h2)⟩
theorem TgS.sole {w A V V' : World} {R E B8 : Nat} {ra sa bs : List Nat} (h : TgS w R E B8 ra sa bs A V) (hs : Sole V V' (R + 1 + 1)) (hw : w.heap.size + 1 < R) (hE : R + 1 + 1 < E) (h8 : B8 ≠ R + 1 + 1) : TgS w R E B8 ra sa bs A V' :=
  ⟨h.low.trans (hs.below.mono (by omega)), hs.blk h.t (by omega), hs.blk h.r (by omega), hs.blk h.s (by omega), hs.blk h.b h8, by rw [hs.size]; exact h.size, fun k h1 h2 => (hs.other k (by omega)).trans (h.same k h1 h2)⟩
theorem poly_next {ss bs ra R : List Nat} {k m : List UInt8} {j : Nat} (h1 : lv ss % p130 = polyN (rN k) m j) (hs : ss.length = 5) (hb : bs = lim (numB (blkP m j ++ [1]))) (hr : ra = lim (rN k)) (hv : lv R % p130 = lv (addL ss bs) * lv ra % p130) : lv R % p130 = polyN (rN k) m (j + 1) := by
  have l1 : numB (blkP m j ++ [1]) < p130 + 5 := by
    have h := numB_lt (blkP m j ++ [1])
    have h2 : (blkP m j).length ≤ 16 := by unfold blkP; rw [List.length_take]; omega
    rw [numB_snoc]
    have h3 := numB_lt (blkP m j)
    have h4 : (256 : Nat) ^ (blkP m j).length ≤ 256 ^ 16 := Nat.pow_le_pow_right (by decide) h2
    have h5 : (256 : Nat) ^ 16 + 256 ^ 16 < p130 + 5 := by decide
    simp only [UInt8.toNat_one, Nat.mul_one]
    omega
  have l2 : rN k < p130 + 5 := by
    unfold rN
    have h := numB_lt (rB k)
    have h2 : (rB k).length ≤ 16 := by unfold rB; rw [List.length_mapIdx, List.length_take]; omega
    have h4 : (256 : Nat) ^ (rB k).length ≤ 256 ^ 16 := Nat.pow_le_pow_right (by decide) h2
    have h5 : (256 : Nat) ^ 16 < p130 + 5 := by decide
    omega
  rw [hv, lv_addL hs (by rw [hb]; exact lim_length _), hb, hr, lv_lim, lv_lim, Nat.mod_eq_of_lt l1, Nat.mod_eq_of_lt l2]
  show _ = (polyN (rN k) m j + numB (blkP m j ++ [1])) * rN k % p130
  rw [← h1, Nat.mul_mod (lv ss % p130 + _), Nat.mod_add_mod, ← Nat.mul_mod]
set_option maxRecDepth 100000 in
set_option maxHeartbeats 4000000 in
theorem tagg : TagG := by
  intro k v xss w hk hv hx3 hml
  have HI : Hid ((Tryd.prog.info? 80).map (·.size) = some 5) := Lib.hid num_info
  have HIK : Hid ((Tryd.prog.info? 23).map (·.size) = some 32) := by show _ = _; kernel_rfl
  have HIT : Hid ((Tryd.prog.info? 49).map (·.size) = some 16) := by show _ = _; kernel_rfl
  have HPT := Lib.hid (parts_of hv)
  obtain ⟨Ad, c, rfl, _⟩ := HPT.out
  have HX3 := Lib.hid hx3
  have HML : Hid (xss.flatten.length ≤ 1000000) := Lib.hid (by omega)
  have HKL : Hid ((k.map bv).length = 32) := by show _ = _; rw [List.length_map]; exact hk
  have HH : Hid (∀ V, Calls Tryd.prog 40 #[.agg (k.map bv).toArray] V fun e w' => e = .returned (.tuple #[.agg ((lim (rN k)).map wq).toArray, .agg ((lim (sN k)).map wq).toArray]) ∧ Below V.heap.size V w') := Lib.hid fun V => halves_any k V hk
  have K1 : Hid (Blk ((w.alloc (.cells (k.map bv).toArray 23)).alloc (.cells (List.replicate 16 (Value.int .u8 0)).toArray 49)) w.heap.size 23 (k.map bv)) := Lib.hid ((Blk.made w _ _).alloc _)
  have T1 : Hid (Blk ((w.alloc (.cells (k.map bv).toArray 23)).alloc (.cells (List.replicate 16 (Value.int .u8 0)).toArray 49)) (w.heap.size + 1) 49 (List.replicate 16 (Value.int .u8 0))) := Lib.hid (by
    have h := Blk.made (w.alloc (.cells (k.map bv).toArray 23)) 49 (List.replicate 16 (Value.int .u8 0))
    rw [World.size_alloc] at h
    exact h)
  have D1 : Hid (Below w.heap.size w ((w.alloc (.cells (k.map bv).toArray 23)).alloc (.cells (List.replicate 16 (Value.int .u8 0)).toArray 49))) := Lib.hid (((Below.refl _ _).alloc (Nat.le_refl _) _).alloc (by simp) _)
  obtain ⟨ra, hra⟩ : ∃ x, x = lim (rN k) := ⟨_, rfl⟩
  obtain ⟨sa, hsa⟩ : ∃ x, x = lim (sN k) := ⟨_, rfl⟩
  have HLA : Hid ((ra.map wq).length = 5) := by show _ = _; rw [List.length_map, hra, lim_length]
  have HLS : Hid ((sa.map wq).length = 5) := by show _ = _; rw [List.length_map, hsa, lim_length]
  have HRA := Lib.hid hra
  have HSA := Lib.hid hsa
  rw [← hra, ← hsa] at HH
  clear hv hx3 hml hra hsa hk
  unfold arrV
  refine (callsIn_wide (n := 3)).1 (callsIn_of_wp_marks Tryd.func30 rfl trivial ?_ rfl)
  simp only [Tryd.ntmps30, List.size_toArray, List.length_cons, List.length_nil, Nat.reduceAdd, Nat.reduceSub, Array.replicate_succ, Array.replicate_zero, List.push_toArray, List.append_toArray, List.nil_append, List.cons_append]
  refine (wpIn_wide (n := 3)).2 ?_
  go_wp2_with (first
    | refine Go.Great.wpList_boxTo rfl _ _ rfl _ rfl w.heap.size rfl ((k.map bv).toArray) rfl ?_
    | (refine wpList_load_blk rfl 23 (.tmp 2) rfl w.heap.size rfl 23 (k.map bv) _ K1.out Tryd.underlying23 rfl (by rw [HKL.out]; exact HIK.out) ?_))
  refine (HH.out _).mono ?_
  rintro e w1 ⟨rfl, hb1⟩
  have T2 := Lib.hid (T1.out.below hb1 T1.out.lt)
  have D2 : Hid (Below w.heap.size w w1) := Lib.hid (D1.out.trans (hb1.mono D1.out.size))
  have hsz1 : w.heap.size + 1 < w1.heap.size := by have := hb1.size; simp at this; omega
  have HS1 := Lib.hid hsz1
  have T3 : Hid (Blk ((w1.alloc (.cells (List.replicate 5 (Value.int .u64 0)).toArray 80)).alloc (.cells (List.replicate 5 (Value.int .u64 0)).toArray 80)) (w.heap.size + 1) 49 (List.replicate 16 (Value.int .u8 0))) := Lib.hid ((T2.out.alloc _).alloc _)
  have R3 : Hid (Blk ((w1.alloc (.cells (List.replicate 5 (Value.int .u64 0)).toArray 80)).alloc (.cells (List.replicate 5 (Value.int .u64 0)).toArray 80)) w1.heap.size 80 (List.replicate 5 (Value.int .u64 0))) := Lib.hid ((Blk.made w1 _ _).alloc _)
  have S3 : Hid (Blk ((w1.alloc (.cells (List.replicate 5 (Value.int .u64 0)).toArray 80)).alloc (.cells (List.replicate 5 (Value.int .u64 0)).toArray 80)) (w1.heap.size + 1) 80 (List.replicate 5 (Value.int .u64 0))) := Lib.hid (by
    have h := Blk.made (w1.alloc (.cells (List.replicate 5 (Value.int .u64 0)).toArray 80)) 80 (List.replicate 5 (Value.int .u64 0))
    rw [World.size_alloc] at h
    exact h)
  have D3 : Hid (Below w.heap.size w ((w1.alloc (.cells (List.replicate 5 (Value.int .u64 0)).toArray 80)).alloc (.cells (List.replicate 5 (Value.int .u64 0)).toArray 80))) := Lib.hid ((D2.out.alloc D2.out.size _).alloc (by have := D2.out.size; simp; omega) _)
  have HNS : Hid (w.heap.size + 1 < w1.heap.size) := HS1
  clear hb1 hsz1 T1 K1 D1
  go_wp2_with (first
    | (refine wpList_store_blk rfl 80 (.tmp 5) (.tmp 12) rfl w1.heap.size 80 _ R3.out (ra.map wq) rfl rfl (by rw [HLA.out]; rfl) (by rw [HLA.out]; exact HI.out) (wq_one _) ?_
       intro w4 hb4 hs4
       have R4 := Lib.hid hb4
       have S4 := Lib.hid (hs4.blk S3.out (by omega))
       have T4 := Lib.hid (hs4.blk T3.out (by have := HNS.out; omega))
       have D4 : Hid (Below w.heap.size w w4) := Lib.hid (D3.out.trans (hs4.below.mono (by have := HNS.out; omega)))
       have Z4 : Hid (w4.heap.size = w1.heap.size + 1 + 1) := Lib.hid (by rw [hs4.size]; simp)
       clear hb4 hs4 R3 S3 T3 D3)
    | (refine wpList_store_blk rfl 80 (.tmp 6) (.tmp 13) rfl (w1.heap.size + 1) 80 _ S4.out (sa.map wq) rfl rfl (by rw [HLS.out]; rfl) (by rw [HLS.out]; exact HI.out) (wq_one _) ?_
       intro w5 hb5 hs5
       have S5 := Lib.hid hb5
       have R5 := Lib.hid (hs5.blk R4.out (by omega))
       have T5 := Lib.hid (hs5.blk T4.out (by have := HNS.out; omega))
       have D5 : Hid (Below w.heap.size w w5) := Lib.hid (D4.out.trans (hs5.below.mono (by have := HNS.out; omega)))
       have Z5 : Hid (w5.heap.size = w1.heap.size + 1 + 1) := Lib.hid (by rw [hs5.size]; exact Z4.out)
       clear hb5 hs5 R4 S4 T4 D4 Z4))
  refine (blks_any Ad xss.length c _).mono ?_
  rintro e w7 ⟨rfl, rfl⟩
  obtain ⟨E, hE⟩ := ex_w ((w5.alloc (.cells (List.replicate 5 (Value.int .u64 0)).toArray 80)).alloc (.cells #[.slice Ad xss.length c] 78))
  have ZE : Hid (E.heap.size = w1.heap.size + 1 + 1 + 1 + 1) := Lib.hid (by rw [hE]; simp; exact Z5.out)
  have z5 := Z5.out
  have TE : Hid (Blk E (w.heap.size + 1) 49 (List.replicate 16 (Value.int .u8 0))) := Lib.hid (by rw [hE]; exact (T5.out.alloc _).alloc _)
  have RE : Hid (Blk E w1.heap.size 80 (ra.map wq)) := Lib.hid (by rw [hE]; exact (R5.out.alloc _).alloc _)
  have SE : Hid (Blk E (w1.heap.size + 1) 80 (sa.map wq)) := Lib.hid (by rw [hE]; exact (S5.out.alloc _).alloc _)
  have ME : Hid (Blk E (w1.heap.size + 1 + 1) 80 ((List.replicate 5 0).map wq)) := Lib.hid (by
    have h := (Blk.made w5 80 (List.replicate 5 (Value.int .u64 0))).alloc (.cells #[.slice Ad xss.length c] 78)
    rw [hE, List.map_replicate, ← z5]
    exact h)
  have CE : Hid (E.cell? ⟨w1.heap.size + 1 + 1 + 1, 0, none⟩ = some (.slice Ad xss.length c)) := Lib.hid (by
    have h : ((w5.alloc (.cells (List.replicate 5 (Value.int .u64 0)).toArray 80)).alloc (.cells #[.slice Ad xss.length c] 78)).cell? ⟨(w5.alloc (.cells (List.replicate 5 (Value.int .u64 0)).toArray 80)).heap.size, 0, none⟩ = some (.slice Ad xss.length c) := by
      rw [cell_of_row _ _ 0 _ 78 (0, 0) (heap_alloc_new _ _)]; rfl
    rw [World.size_alloc, z5] at h
    rw [hE]
    exact h)
  have DE : Hid (Below w.heap.size w E) := Lib.hid (by rw [hE]; exact (D5.out.alloc D5.out.size _).alloc (by have := D5.out.size; simp; omega) _)
  have hE' := hE
  simp only [List.replicate_succ, List.replicate_zero] at hE'
  have HE := Lib.hid hE'
  have ZZ5 := Lib.hid z5
  clear hE hE' z5 T5 R5 S5 D5 Z5
  obtain ⟨R, hR⟩ : ∃ R, R = w1.heap.size := ⟨_, rfl⟩
  obtain ⟨m, hm⟩ : ∃ m, m = xss.flatten := ⟨_, rfl⟩
  have HMM := Lib.hid hm
  rw [← hR] at ZE RE SE ME CE HNS ZZ5
  rw [← hm] at HML
  have hJ0 : TgJ w R k m ra sa 0 E := ⟨DE.out, TE.out, RE.out, SE.out, List.replicate 5 0, red_zero, by rw [lv_zeros]; rfl, ME.out⟩
  have HJ0 := Lib.hid hJ0
  have HR1 := Lib.hid hR
  clear hJ0 TE RE SE ME DE hm hR
  go_wp2_with (fail)
  rw [← HE.out, ← HR1.out, ZZ5.out]
  refine (wpIn_wide (n := 3)).1 ?_
  refine wpIn_rangeFunc_low (gf := 50) (lb := #[.pointer (some ⟨R + 1 + 1 + 1, 0, none⟩)]) rfl (enters_of Tryd.func50 (by kernel_rfl) rfl) rfl (blksN m) (encB m) (TgJ w R k m ra sa)
    (fun j A a₁ A₁ => a₁ = { tmps := #[.agg (k.map bv).toArray, .slice Ad xss.length c, .pointer (some ⟨w.heap.size, 0, none⟩), undef, .pointer (some ⟨w.heap.size + 1, 0, none⟩), .pointer (some ⟨R, 0, none⟩), .pointer (some ⟨R + 1, 0, none⟩), .pointer (some ⟨R + 1 + 1, 0, none⟩), .pointer (some ⟨A.heap.size, 0, none⟩), .tuple #[.agg (ra.map wq).toArray, .agg (sa.map wq).toArray], .agg (k.map bv).toArray, .tuple #[.agg (ra.map wq).toArray, .agg (sa.map wq).toArray], .agg (ra.map wq).toArray, .agg (sa.map wq).toArray, .slice Ad xss.length c, .func (.func 50) #[] #[.pointer (some ⟨R + 1 + 1 + 1, 0, none⟩)], encB m j, undef, undef, undef, undef, undef, undef, undef, undef, undef, undef], defers := [] } ∧ Blk A₁ A.heap.size 80 ((lim (numB (blkP m j ++ [1]))).map wq))
    (fun j A B h hb => h.on HNS.out (by rw [ZE.out]; omega) hb) HJ0.out ?seq ?assign ?body ?done
  case seq =>
    intro l W I hbW hIJ hIon hIy hI0
    have hcW : W.cell? ⟨R + 1 + 1 + 1, 0, none⟩ = some (.slice Ad xss.length c) := (hbW.cell (p := ⟨R + 1 + 1 + 1, 0, none⟩) (by rw [ZE.out]; exact Nat.lt_succ_self _)).trans CE.out
    refine (callsIn_wide (n := 2)).2 ((blks1_any w W l (R + 1 + 1 + 1) _ m xss I HPT.out HMM.out (by have := HML.out; omega) (by have := HX3.out; omega) hcW (by have := hbW.size; rw [ZE.out] at this; omega) ⟨?_, Nat.le_refl _, fun j A h => (hIJ j A h).1, hIon, hIy⟩ hI0).mono ?_)
    · have h1 := (hIJ 0 W hI0).1.size
      exact h1
    · rintro e W' ⟨rfl, h⟩
      exact ⟨⟨_, rfl⟩, h⟩
  case assign =>
    intro l j A K hj hJ hsz hK
    refine plain_inRound (fun ⟨_, _, h⟩ => h) (by intro o ho c; simp at ho; rcases ho with rfl | rfl <;> simp) ?_
    obtain ⟨bs, hbs⟩ : ∃ bs, bs = lim (numB (blkP m j ++ [1])) := ⟨_, rfl⟩
    have HBS := Lib.hid hbs
    have hlb : bs.length = 5 := by rw [hbs, lim_length]
    have HBL : Hid ((bs.map wq).length = 5) := Lib.hid (by rw [List.length_map]; exact hlb)
    have HK := Lib.hid hK
    have HBM := Lib.hid (Blk.made A 80 (List.replicate 5 (Value.int .u64 0)))
    simp only [encB]
    rw [← hbs]
    clear hK hbs hlb
    simp only [fold_one]
    change wpList _ _ _ _ { tmps := #[.agg (k.map bv).toArray, .slice Ad xss.length c, .pointer (some ⟨w.heap.size, 0, none⟩), undef, .pointer (some ⟨w.heap.size + 1, 0, none⟩), .pointer (some ⟨R, 0, none⟩), .pointer (some ⟨R + 1, 0, none⟩), .pointer (some ⟨R + 1 + 1, 0, none⟩), undef, .tuple #[.agg (ra.map wq).toArray, .agg (sa.map wq).toArray], .agg (k.map bv).toArray, .tuple #[.agg (ra.map wq).toArray, .agg (sa.map wq).toArray], .agg (ra.map wq).toArray, .agg (sa.map wq).toArray, .slice Ad xss.length c, .func (.func 50) #[] #[.pointer (some ⟨R + 1 + 1 + 1, 0, none⟩)], .agg (bs.map wq).toArray, undef, undef, undef, undef, undef, undef, undef, undef, undef, undef], defers := [] } A
    go_wp2_with (first
      | (refine wpList_store_blk rfl 80 (.tmp 8) (.tmp 16) rfl A.heap.size 80 _ HBM.out (bs.map wq) rfl rfl (by rw [HBL.out]; rfl) (by rw [HBL.out]; exact HI.out) (wq_one _) ?_; intro w2 hb2 hs2))
    refine HK.out _ _ ⟨?_, ?_⟩ (((Below.refl _ A).alloc (Nat.le_refl _) (.cells (List.replicate 5 (Value.int .u64 0)).toArray 80)).trans hs2.below)
    · rw [encB, ← HBS.out]; rfl
    · rw [← HBS.out]; exact hb2
  case body =>
    rintro l j A A₁ A₂ a₁ hj hJ ⟨rfl, hblk⟩ hb1 hl hlA hsz hk hb2
    obtain ⟨bs, hbs⟩ : ∃ bs, bs = lim (numB (blkP m j ++ [1])) := ⟨_, rfl⟩
    have HBS := Lib.hid hbs
    rw [← hbs] at hblk
    have hE4 : R + 1 + 1 < E.heap.size := by rw [ZE.out]; omega
    have hJ2 := (hJ.on HNS.out hE4 (hb1.mono (by omega))).on HNS.out hE4 hb2
    obtain ⟨j1, j2, j3, j4, ss, j5, j6, j7⟩ := hJ2
    have hb8 : Blk A₂ A.heap.size 80 (bs.map wq) := (hk _ (by omega)).trans hblk
    have hS : TgS w R E.heap.size A.heap.size ra sa bs A₂ A₂.drew := ⟨j1.drew, j2.drew, j3.drew, j4.drew, hb8.drew, Nat.le_refl _, fun _ _ _ => rfl⟩
    have HM0 := Lib.hid j7
    have HSS := Lib.hid j5
    have HPV := Lib.hid j6
    have HAE : Hid (R + 1 + 1 < E.heap.size ∧ E.heap.size < A.heap.size) := Lib.hid (by rw [ZE.out] at hl ⊢; omega)
    have HLB : Hid (bs.length = 5) := Lib.hid (by rw [hbs, lim_length])
    have HB5 : Hid ((bs.map wq).length = 5) := Lib.hid (by rw [List.length_map]; exact HLB.out)
    have HS5 : Hid ((ss.map wq).length = 5) := Lib.hid (by rw [List.length_map]; exact j5.1)
    rw [encB, ← hbs]
    clear hblk hb1 hl hlA hsz hk hb2 hJ j1 j2 j3 j4 j5 j6 j7 hb8 hbs hE4
    refine wpIn_block ?_
    refine drawn_inRound (S := TgS w R E.heap.size A.heap.size ra sa bs A₂) (fun ⟨_, _, h⟩ => h) (by intro o ho c; simp at ho; rcases ho with rfl | rfl | rfl | rfl | rfl | rfl <;> simp) (by kernel_rfl) ?_
    refine take_put (i := 1) (oi := _) (v := _) 18 rfl rfl (by kernel_rfl) (by kernel_rfl) (by kernel_rfl) (fun _ _ _ h => h) (yieldsIf_load_mid (by rfl) _ _ rfl A.heap.size 0 rfl (bs.map wq) _ (fun _ h => Blk.range h.b) Tryd.underlying80 rfl (by rw [HB5.out]; exact HI.out)) (by assumption) ?_
    simp only [List.set_cons_zero, List.set_cons_succ]
    refine take_put (i := 3) (oi := _) (v := _) 20 rfl rfl (by kernel_rfl) (by kernel_rfl) (by kernel_rfl) (fun _ _ _ h => h) (yieldsIf_load_mid (by rfl) _ _ rfl R 0 rfl (ra.map wq) _ (fun _ h => Blk.range h.r) Tryd.underlying80 rfl (by rw [HLA.out]; exact HI.out)) (by assumption) ?_
    simp only [List.set_cons_zero, List.set_cons_succ]
    refine wpAnyH_ready (rs := [0]) (by kernel_rfl) (by simp) ?_
    refine AllReadyH.cons (o := _) rfl (fun K hK => ?_) AllReadyH.nil
    refine step_load_blk rfl 80 (.tmp 7) rfl (R + 1 + 1) rfl 80 (ss.map wq) _ HM0.out.drew Tryd.underlying80 rfl (by rw [HS5.out]; exact HI.out) ?_
    refine hK.out _ _ hS (fun hHeld => ?_)
    clear hK K
    simp only [Act.put, List.setIfInBounds_toArray]
    refine wpAnyH_ready (rs := [2]) (by kernel_rfl) (by simp) ?_
    refine AllReadyH.cons (o := _) rfl (fun K hK => ?_) AllReadyH.nil
    go_simp
    refine (plus_any ss bs _ HSS.out.1 HLB.out (fun q hq => by have := HSS.out.2.1 q hq; omega) (fun q hq => by rw [HBS.out]; have := lim_lt (numB (blkP m j ++ [1])) hq; omega)).mono ?_
    rintro e w2 ⟨rfl, hb2⟩
    have hS2 := hS.on hb2
    have HM2 : Hid (Blk w2 (R + 1 + 1) 80 (ss.map wq)) := Lib.hid (HM0.out.drew.below hb2 HM0.out.drew.lt)
    clear hb2
    refine hK.out _ _ hS2 (fun hHeld => ?_)
    clear hK K
    try simp only [Act.put, List.setIfInBounds_toArray, List.set_cons_zero, List.set_cons_succ]
    refine wpAnyH_ready (rs := [4]) (by kernel_rfl) (by simp) ?_
    refine AllReadyH.cons (o := _) rfl (fun K hK => ?_) AllReadyH.nil
    go_simp
    refine (times_any (addL ss bs) ra _ (addL_length _ _) (by have := HLA.out; rwa [List.length_map] at this) (fun q hq => by rw [addL_get _ _ hq]; have := HSS.out.2.1 q hq; have h2 := lim_lt (numB (blkP m j ++ [1])) hq; rw [← HBS.out] at h2; omega) (fun q hq => by have h2 := lim_lt (rN k) hq; rw [← HRA.out] at h2; omega)).mono ?_
    rintro e w3 ⟨RR, rfl, hRR, hvR, hb3⟩
    have hS3 := hS2.on hb3
    have HM3 : Hid (Blk w3 (R + 1 + 1) 80 (ss.map wq)) := Lib.hid (HM2.out.below hb3 HM2.out.lt)
    have HRED := Lib.hid hRR
    have HPN := Lib.hid (poly_next HPV.out HSS.out.1 HBS.out HRA.out hvR)
    have HR5 : Hid ((RR.map wq).length = 5) := Lib.hid (by rw [List.length_map]; exact hRR.1)
    clear hb3 hRR hvR
    refine hK.out _ _ hS3 (fun hHeld => ?_)
    clear hK K
    try simp only [Act.put, List.setIfInBounds_toArray, List.set_cons_zero, List.set_cons_succ]
    refine wpAnyH_ready (rs := [5]) (by kernel_rfl) (by simp) ?_
    refine AllReadyH.cons (o := _) rfl (fun K hK => ?_) AllReadyH.nil
    refine step_store_arr rfl 80 (.tmp 7) (.tmp 21) rfl (R + 1 + 1) 80 _ HM3.out (RR.map wq) rfl rfl (by rw [HR5.out, HS5.out]) (by rw [HR5.out]; exact HI.out) (wq_one _) ?_
    intro w4 hb4 hs4
    have hS4 := hS3.sole hs4 HNS.out HAE.out.1 (by have := HAE.out.2; have := HAE.out.1; omega)
    refine hK.out _ _ hS4 (fun hHeld => ?_)
    clear hK K
    try simp only [Act.put, List.setIfInBounds_toArray]
    refine wpAnyH_done (by kernel_rfl) ?_ _
    exact ⟨⟨hS4.low, hS4.t, hS4.r, hS4.s, RR, HRED.out, HPN.out, hb4⟩, hS4.size, hS4.same⟩
  case done =>
    intro W hJ hEW hD
    obtain ⟨j1, j2, j3, j4, ss, j5, j6, j7⟩ := hJ
    have HSS := Lib.hid j5
    have HPV := Lib.hid j6
    have HT0 := Lib.hid j2
    have hS : TgE w R E.heap.size ss sa W.drew := ⟨j1.drew, j7.drew, j4.drew, hEW, hD⟩
    have HS5 : Hid ((ss.map wq).length = 5) := Lib.hid (by rw [List.length_map]; exact j5.1)
    have HSL : Hid (sa.length = 5) := Lib.hid (by have := HLS.out; rwa [List.length_map] at this)
    have HEE : Hid (w.heap.size + 1 < R ∧ R + 1 + 1 < E.heap.size) := Lib.hid ⟨HNS.out, by rw [ZE.out]; omega⟩
    have hsN : sN k < p130 + 5 := by
      unfold sN
      have h := numB_lt (k.drop 16)
      have h2 : (k.drop 16).length ≤ 16 := by have h3 := HKL.out; rw [List.length_map] at h3; rw [List.length_drop]; omega
      have h4 : (256 : Nat) ^ (k.drop 16).length ≤ 256 ^ 16 := Nat.pow_le_pow_right (by decide) h2
      have h5 : (256 : Nat) ^ 16 < p130 + 5 := by decide
      omega
    have HLV : Hid (lv sa = sN k) := Lib.hid (by rw [HSA.out, lv_lim, Nat.mod_eq_of_lt hsN])
    clear j1 j2 j3 j4 j5 j6 j7 hEW hD hsN
    dsimp only
    go_wp2_with (fail)
    refine wp_region_noPanic ?_
    refine wp_region_held (S := TgE w R E.heap.size ss sa) (by kernel_rfl) ?_
    change wpAnyH _ _ _ _ _ _ _ _ W.drew
    refine take_put (i := 0) (oi := _) (v := _) 22 rfl rfl (by kernel_rfl) (by kernel_rfl) (by kernel_rfl) (fun _ _ _ h => h) (yieldsIf_load_mid (by rfl) _ _ rfl (R + 1 + 1) 0 rfl (ss.map wq) _ (fun _ h => Blk.range h.m) Tryd.underlying80 rfl (by rw [HS5.out]; exact HI.out)) (by assumption) ?_
    simp only [List.set_cons_zero, List.set_cons_succ]
    refine take_put (i := 2) (oi := _) (v := _) 24 rfl rfl (by kernel_rfl) (by kernel_rfl) (by kernel_rfl) (fun _ _ _ h => h) (yieldsIf_load_mid (by rfl) _ _ rfl (R + 1) 0 rfl (sa.map wq) _ (fun _ h => Blk.range h.s) Tryd.underlying80 rfl (by rw [HLS.out]; exact HI.out)) (by assumption) ?_
    simp only [List.set_cons_zero, List.set_cons_succ]
    refine wpAnyH_ready (rs := [1]) (by kernel_rfl) (by simp) ?_
    refine AllReadyH.cons (o := _) rfl (fun K hK => ?_) AllReadyH.nil
    go_simp
    refine (rest_any ss _ HSS.out).mono ?_
    rintro e w2 ⟨RR, rfl, hRl, hRb, hRv, hb2⟩
    have hS2 := hS.on hb2
    have HT2 : Hid (Blk w2 (w.heap.size + 1) 49 (List.replicate 16 (Value.int .u8 0))) := Lib.hid (HT0.out.drew.below hb2 HT0.out.drew.lt)
    have HRL := Lib.hid hRl
    have HRB := Lib.hid hRb
    have HRV : Hid (lv RR = polyN (rN k) m (blksN m)) := Lib.hid (by rw [hRv]; exact HPV.out)
    clear hb2 hRl hRb hRv
    refine hK.out _ _ hS2 (fun hHeld => ?_)
    clear hK K
    try simp only [Act.put, List.setIfInBounds_toArray, List.set_cons_zero, List.set_cons_succ]
    refine wpAnyH_ready (rs := [3]) (by kernel_rfl) (by simp) ?_
    refine AllReadyH.cons (o := _) rfl (fun K hK => ?_) AllReadyH.nil
    go_simp
    refine (plus_any RR sa _ HRL.out HSL.out (fun q hq => by have := HRB.out q hq; omega) (fun q hq => by rw [HSA.out]; have := lim_lt (sN k) hq; omega)).mono ?_
    rintro e w3 ⟨rfl, hb3⟩
    have hS3 := hS2.on hb3
    have HT3 : Hid (Blk w3 (w.heap.size + 1) 49 (List.replicate 16 (Value.int .u8 0))) := Lib.hid (HT2.out.below hb3 HT2.out.lt)
    clear hb3
    refine hK.out _ _ hS3 (fun hHeld => ?_)
    clear hK K
    try simp only [Act.put, List.setIfInBounds_toArray, List.set_cons_zero, List.set_cons_succ]
    refine wpAnyH_ready (rs := [4]) (by kernel_rfl) (by simp) ?_
    refine AllReadyH.cons (o := _) rfl (fun K hK => ?_) AllReadyH.nil
    go_simp
    refine (ptag_any (addL RR sa) _ _ (han_zero (addL_length _ _) (fun q hq => by rw [addL_get _ _ hq]; have := HRB.out q hq; have h2 := lim_lt (sN k) hq; rw [← HSA.out] at h2; omega))).mono ?_
    rintro e w4 ⟨rfl, hb4⟩
    have hS4 := hS3.on hb4
    have HT4 : Hid (Blk w4 (w.heap.size + 1) 49 (List.replicate 16 (Value.int .u8 0))) := Lib.hid (HT3.out.below hb4 HT3.out.lt)
    clear hb4
    have HTG : Hid (leB 16 (lv (addL RR sa)) = tagB k m) := Lib.hid (by rw [tagB_eq, lv_addL HRL.out HSL.out, HRV.out, HLV.out])
    rw [HTG.out]
    have HTL : Hid (((tagB k m).map bv).length = 16) := Lib.hid (by rw [List.length_map, tagB_length])
    refine hK.out _ _ hS4 (fun hHeld => ?_)
    clear hK K
    try simp only [Act.put, List.setIfInBounds_toArray, List.set_cons_zero, List.set_cons_succ]
    refine wpAnyH_ready (rs := [5]) (by kernel_rfl) (by simp) ?_
    refine AllReadyH.cons (o := _) rfl (fun K hK => ?_) AllReadyH.nil
    refine step_store_arr rfl 49 (.tmp 4) (.tmp 26) rfl (w.heap.size + 1) 49 _ HT4.out ((tagB k m).map bv) rfl rfl (by rw [HTL.out]; rfl) (by rw [HTL.out]; exact HIT.out) (bv_one _) ?_
    intro w9 hb9 hs9
    have hS9 : TgE w R E.heap.size ss sa w9 := ⟨hS4.low.trans (hs9.below.mono (by omega)), hs9.blk hS4.m (by have := HEE.out; omega), hs9.blk hS4.s (by have := HEE.out; omega), by rw [hs9.size]; exact hS4.lt, (hs9.other _ (by have := HEE.out; omega)).trans hS4.d⟩
    refine hK.out _ _ hS9 (fun hHeld => ?_)
    clear hK K
    try simp only [Act.put, List.setIfInBounds_toArray]
    refine wpAnyH_done (by kernel_rfl) (NoPanic.normal ?_) _
    go_wp2_with (fail)
    refine ⟨by simp, .inl ⟨_, _, rfl, run_takeDeferred hS9.d, ?_⟩⟩
    refine ⟨arrV (tagB k m), ?_, by rw [HMM.out]; rfl, hS9.low.trans (below_putObj _ _ _ (by have := HEE.out; omega))⟩
    exact results_blk (ty := 49) Tryd.results30 _ _ (w.heap.size + 1) 49 ((tagB k m).map bv) _ rfl ((World.putObj_heap_other (by have := HEE.out; omega)).trans hb9) Tryd.underlying49 rfl (by rw [HTL.out]; exact HIT.out)
end Go.Proofs.YtmoffodmbbkolaaDoor
