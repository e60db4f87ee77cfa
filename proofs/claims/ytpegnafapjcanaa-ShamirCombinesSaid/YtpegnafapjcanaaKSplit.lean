/- The contracts of the developers' Split: the shares of a secret, or that it is refused. Conditions: a secret of 32 bytes, at most 12 places, at most 1000 draws. -/
import Derived.Test.YtpegnafapjcanaaKAddC
import Derived.OwnWalk
import Derived.Deep.RegionHeld3
namespace Go.Proofs.Ytpegnafapjcanaa
open Go.RowKit

theorem made_rows (n : Nat) : (madeCells (Value.agg (zeros33.map bv).toArray).cells (n * 33)).toList = (rows (List.replicate n zeros33)).flatten := by
  have e1 : (madeCells (Value.agg (zeros33.map bv).toArray).cells (n * 33)).toList = List.replicate (n * 33) (bv 0) := by
    rw [List.eq_replicate_iff]
    refine ⟨by simp [madeCells], fun b hb => ?_⟩
    simp only [madeCells, Array.toList_map, List.mem_map] at hb
    obtain ⟨x, _, rfl⟩ := hb
    have hx : x % (Value.agg (zeros33.map bv).toArray).cells.size < 33 := Nat.mod_lt _ (by simp [Value.cells, zeros33])
    show ((zeros33.map bv).toArray)[x % (Value.agg (zeros33.map bv).toArray).cells.size]! = _
    obtain ⟨j, hj⟩ : ∃ j, j = x % (Value.agg (zeros33.map bv).toArray).cells.size := ⟨_, rfl⟩
    rw [← hj] at hx ⊢
    have e : zeros33.map bv = List.replicate 33 (bv 0) := by unfold zeros33; rw [List.map_replicate]
    rw [getElem!_pos _ _ (by simp [zeros33]; exact hx), List.getElem_toArray]
    exact List.eq_of_mem_replicate (n := 33) (by rw [← e]; exact List.getElem_mem _)
  have e2 : (rows (List.replicate n zeros33)).flatten = List.replicate (n * 33) (bv 0) := by
    rw [List.eq_replicate_iff]
    refine ⟨?_, fun b hb => ?_⟩
    · rw [rows_length (n := 33) (fun l hl => ?_), rows_len, List.length_replicate]
      unfold rows at hl
      rw [List.map_replicate] at hl
      rw [List.eq_of_mem_replicate hl]
      simp [zeros33]
    · obtain ⟨l, hl, hb⟩ := List.mem_flatten.1 hb
      unfold rows at hl
      rw [List.map_replicate] at hl
      rw [List.eq_of_mem_replicate hl] at hb
      unfold zeros33 at hb
      rw [List.map_replicate] at hb
      exact List.eq_of_mem_replicate hb
  rw [e1, e2]
/-- Shares of nothing, the first i of which have their places. -/
def splX (n i : Nat) : List (List UInt8) := (List.range n).map fun q => (if q < i then UInt8.ofNat (q + 1) else 0) :: List.replicate 32 0
theorem splX_length (n i : Nat) : (splX n i).length = n := by simp [splX]
theorem splX_33 (n i : Nat) : ∀ l ∈ splX n i, l.length = 33 := fun l hl => by
  unfold splX at hl
  obtain ⟨q, _, rfl⟩ := List.mem_map.1 hl
  simp
theorem splX_none (n : Nat) : splX n 0 = List.replicate n zeros33 := by
  rw [List.eq_replicate_iff]
  refine ⟨splX_length n 0, fun l hl => ?_⟩
  unfold splX at hl
  obtain ⟨q, _, rfl⟩ := List.mem_map.1 hl
  rw [if_neg (by omega)]
  rfl
theorem splX_set {n i : Nat} (h : i < n) : (splX n i).set i (((splX n i).getD i []).set 0 (UInt8.ofNat (i + 1))) = splX n (i + 1) := by
  have e1 : (splX n i).getD i [] = (if i < i then UInt8.ofNat (i + 1) else 0) :: List.replicate 32 0 := range_getD _ _ h
  have e2 : ((splX n i).getD i []).set 0 (UInt8.ofNat (i + 1)) = (if i < i + 1 then UInt8.ofNat (i + 1) else 0) :: List.replicate 32 0 := by
    rw [e1, List.set_cons_zero, if_pos (by omega)]
  rw [e2]
  exact range_set (fun q => (if q < i then UInt8.ofNat (q + 1) else 0) :: List.replicate 32 (0 : UInt8)) (fun q => (if q < i + 1 then UInt8.ofNat (q + 1) else 0) :: List.replicate 32 0) n i (fun q _ hq => by
    have e : (q < i) = (q < i + 1) := by apply propext; omega
    simp only [e])
theorem splX_add (sec : List UInt8) (n t : Nat) (draws : List UInt8) : addAll sec t draws (splX n n) = splitB sec n t draws := by
  unfold addAll splX splitB
  rw [List.map_map]
  refine List.map_congr_left fun q hq => ?_
  show addY ((if q < n then UInt8.ofNat (q + 1) else 0) :: List.replicate 32 0) _ = _
  rw [if_pos (List.mem_range.1 hq)]
  have hx : shX (UInt8.ofNat (q + 1) :: List.replicate 32 0) = UInt8.ofNat (q + 1) := rfl
  show addY (UInt8.ofNat (q + 1) :: List.replicate 32 0) (shareB sec (shX ((if q < n then UInt8.ofNat (q + 1) else 0) :: List.replicate 32 0)) t draws) = _
  rw [if_pos (List.mem_range.1 hq), hx]
  unfold addY
  rw [hx]
  unfold shareB
  congr 1
  refine List.map_congr_left fun k hk => ?_
  have hk := List.mem_range.1 hk
  have e1 : shY (UInt8.ofNat (q + 1) :: List.replicate 32 0) k = 0 := by
    unfold shY
    rw [List.getD_cons_succ, List.getD, List.getElem?_replicate]
    split <;> rfl
  have e2 := shareB_Y sec (UInt8.ofNat (q + 1)) t draws hk
  unfold shareB at e2
  rw [e1, bx_zero, e2]
theorem rf_of_rows {n : Nat} {W : World} {base : Nat} {e : TypeId} {v : Value} {M : List (List UInt8)} (h : OwnR n W base e v (rows M)) : Rf n W v M := by
  have hl : ∀ l ∈ M, l.length = n := fun l hl => by
    have h1 := h.1 (l.map bv) (List.mem_map.2 ⟨l, hl, rfl⟩)
    rw [List.length_map] at h1
    exact h1
  obtain ⟨A, c, rfl, h1, h2, h3⟩ := h.form
  rw [rows_len] at h1 h3
  refine ⟨hl, ?_⟩
  by_cases h0 : 0 < M.length
  · obtain ⟨g, rfl, _, hg⟩ := h3 h0
    refine .inr ⟨g, 0, c, by rw [rows_len], hg, h1, h2, fun i j hi hj => ?_⟩
    have hc := h.cell i j (by rw [rows_len]; exact hi) hj
    have hln := len_get hl hi
    rw [rows_at M hi] at hc
    obtain ⟨l, hl0⟩ : ∃ l, l = M.getD i [] := ⟨_, rfl⟩
    rw [← hl0] at hln hc ⊢
    rw [List.getElem?_map, List.getElem?_eq_getElem (by rw [hln]; exact hj)] at hc
    rw [Nat.zero_add, hc, List.getD, List.getElem?_eq_getElem (by rw [hln]; exact hj)]
    rfl
  · have e : M = [] := List.eq_nil_of_length_eq_zero (by omega)
    subst e
    exact .inl ⟨A, c, rfl, h2, rfl⟩
/-- A table is no row of shares. -/
theorem tab_apart {V : World} {B base : Nat} {v : Value} {R : List (List Value)} (hT : Tab V B) (h : OwnR 33 V base 31 v R) : ¬ FB v B := fun hF => by
  rcases h.2.2 with ⟨rfl, _⟩ | ⟨g, cap, cur, rfl, _, hg, _⟩
  · cases hF
  · have e : g = B := by
      unfold FB Value.ownBlock at hF
      simpa using hF
    subst e
    have h2 : V.heap[g]? = some (.cells _ 59) := hT
    rw [hg] at h2
    injection h2 with h3
    injection h3 with _ h4
    exact absurd h4 (by decide)
/-- The world ahead of the last region: the row, the draws. -/
def RowS (w : World) (v : Value) (M : List (List UInt8)) (vd : Value) (draws : List UInt8) (V : World) : Prop := OwnR 33 V w.heap.size 31 v (rows M) ∧ Rd V vd draws ∧ Below w.heap.size w V
theorem RowS.on {w : World} {v : Value} {M : List (List UInt8)} {vd : Value} {draws : List UInt8} {V V' : World} (h : RowS w v M vd draws V) (hb : Below V.heap.size V V') : RowS w v M vd draws V' := ⟨(chg_new (F := fun _ => False) hb).ownR h.1 (fun _ _ h => h), h.2.1.below hb, h.2.2.trans (hb.mono h.2.2.size)⟩
theorem RowS.drew {w : World} {v : Value} {M : List (List UInt8)} {vd : Value} {draws : List UInt8} {V : World} (h : RowS w v M vd draws V) : RowS w v M vd draws V.drew := h.on (below_drewN (Below.refl _ _) 1)
theorem range_drew {V : World} {b o : Nat} {cs : List Value} (h : V.rangeAt b o cs) : V.drew.rangeAt b o cs := h
theorem tab_drew {V : World} {B : Nat} (h : Tab V B) : Tab V.drew B := h
/-- The call that adds, from such a world. -/
theorem add_row {w : World} {A : Option Addr} {c : Nat} {M : List (List UInt8)} {vd : Value} {draws : List UInt8} (sec : List UInt8) (t : Nat) (hs : sec.length = 32) (ht : 1 ≤ t) (ht2 : t ≤ 1000) (hn : M.length ≤ 1000) (hd : draws.length ≤ 1000) (h33 : ∀ l ∈ M, l.length = 33) (hr : Rd w vd draws) {V : World} {B : Nat} (hV : RowS w (.slice A M.length c) M vd draws V) (hT : Tab V B) :
    Calls Try.prog 19 #[.pointer (some ⟨B, 0, none⟩), .slice A M.length c, .agg (sec.map bv).toArray, .int .i64 (t : Int), vd] V fun e w' => e = .returned (.tuple #[]) ∧ OwnR 33 w' w.heap.size 31 (.slice A M.length c) (rows (addAll sec t draws M)) ∧ Below w.heap.size w w' ∧ Chg (FB (.slice A M.length c)) V w' := by
  refine (add_any sec t draws M w.heap.size c B A vd V hs ht ht2 hn hd h33 hT (tab_apart hT hV.1) hV.2.1 ?_ hV.1).mono ?_
  · intro h0 k hk hF
    have h1 := (hV.1.lt k hF).1
    rcases hr with ⟨A', c', rfl, _, _, rfl⟩ | ⟨b, off, c', rfl, h2, _⟩
    · simp at h0
    · have e : b = k := by simpa [Value.ownBlock] using hk
      omega
  · rintro e w' ⟨rfl, ho, hc⟩
    exact ⟨rfl, ho, hV.2.2.trans (hc.below (fun k hk => (hV.1.lt k hk).1) hV.2.2.size), hc⟩
def SplRel (sec : List UInt8) (n : Nat) (w : World) (v : Value) (vd : Value) (draws : List UInt8) (sv : Value) (W : World) : Prop := ∃ i : Nat, sv = .int .i64 (i : Int) ∧ i ≤ n ∧ RowS w v (splX n i) vd draws W ∧ Blk W w.heap.size 23 (sec.map bv)
set_option maxRecDepth 100000 in
set_option maxHeartbeats 4000000 in
theorem splite : SplitE := by
  intro sec n t v draws w hs hwn hwt hor hr hd
  unfold arrV
  obtain ⟨W0, hW0⟩ : ∃ W : World, W = w.alloc (.cells (sec.map bv).toArray 23) := ⟨_, rfl⟩
  have D0 : Hid (Below w.heap.size w W0) := Lib.hid (by rw [hW0]; exact (Below.refl _ _).alloc (Nat.le_refl _) _)
  clear hwn hwt hr hd hs
  go_enter Try.func9, Try.ntmps9
  go_upto_region 1 with (fail)
  rw [← hW0]
  clear hW0
  by_cases h1 : t < 1
  · clear hor
    go_wp2_with (fail)
    go_ret2
    exact ⟨_, rfl, Rf.empty _ _ _ (Nat.zero_le _), D0.out⟩
  · by_cases h2 : n < t
    · clear hor
      go_wp2_with (fail)
      go_ret2
      exact ⟨_, rfl, Rf.empty _ _ _ (Nat.zero_le _), D0.out⟩
    · have h3 : 256 ≤ n := by omega
      clear hor
      go_wp2_with (fail)
      go_ret2
      exact ⟨_, rfl, Rf.empty _ _ _ (Nat.zero_le _), D0.out⟩
set_option maxRecDepth 100000 in
set_option maxHeartbeats 4000000 in
theorem splitc : SplitC := by
  intro sec n t v draws w hs ht htn hn hr hd
  unfold arrV
  obtain ⟨ish, his, hisz, hiss, hisb⟩ := info_of info_share
  obtain ⟨W0, hW0⟩ : ∃ W : World, W = w.alloc (.cells (sec.map bv).toArray 23) := ⟨_, rfl⟩
  have D0 : Hid (Below w.heap.size w W0) := Lib.hid (by rw [hW0]; exact (Below.refl _ _).alloc (Nat.le_refl _) _)
  have B0 : Hid (Blk W0 w.heap.size 23 (sec.map bv)) := Lib.hid (by rw [hW0]; exact Blk.made w _ _)
  have R0 : Hid (Rd W0 v draws) := Lib.hid (hr.below D0.out)
  have HS := Lib.hid hs
  have HT := Lib.hid ht
  have HT2 : Hid (t ≤ 1000) := Lib.hid (by omega)
  have HN : Hid (n ≤ 1000) := Lib.hid (by omega)
  have HD := Lib.hid hd
  have HR := Lib.hid hr
  have HSM : Hid ((sec.map bv).length = 32) := Lib.hid (by rw [List.length_map]; exact hs)
  have HIK : Hid ((Try.prog.info? 23).map (·.size) = some 32) := Lib.hid (size_of info_key)
  have tI : ¬ (t : Int) < 1 := by omega
  have tnI : ¬ (n : Int) < t := by omega
  have nI : ¬ (256 : Int) ≤ n := by omega
  have n12 : (n : Int) ≤ 12 := by omega
  have QM : Hid (ish.bytes * n ≤ 281474976710656) := Lib.hid (by rw [hisb]; omega)
  have QN : Hid (n ≤ maxLen) := Lib.hid (by unfold maxLen; omega)
  clear hs ht htn hn hr hd
  go_enter Try.func9, Try.ntmps9
  go_upto_region 1 with (fail)
  rw [← hW0]
  clear hW0
  go_upto_region 4 with (refine wpList_make_full W0 rfl (.tmp 23) (.tmp 23) 26 rfl w.heap.size 31 ish _ 33 Try.underlying26 his hisz hiss .i64 .i64 n n n rfl rfl rfl rfl QM.out QN.out D0.out.size ?_; intro w1 own1 gr1)
  obtain ⟨g, hg⟩ : ∃ g, g = W0.heap.size := ⟨_, rfl⟩
  have B1 : Hid (Below W0.heap.size W0 w1) := Lib.hid ((Below.refl _ _).grown gr1 (Nat.le_refl _) (fun k hk => by cases hk))
  rw [← hg] at own1 ⊢
  have HG : Hid (w.heap.size < g) := Lib.hid (by rw [hg]; exact B0.out.lt)
  have D1 : Hid (Below w.heap.size w w1) := Lib.hid (D0.out.trans (B1.out.mono D0.out.size))
  have S1 : Hid (RowS w (.slice (some ⟨g, 0, none⟩) n n) (splX n 0) v draws w1) := Lib.hid ⟨⟨fun l hl => by
      unfold rows at hl
      obtain ⟨l', h1, rfl⟩ := List.mem_map.1 hl
      rw [List.length_map]
      exact splX_33 n 0 l' h1, by
      rw [rows_len, splX_length, splX_none, ← made_rows]
      exact own1⟩, HR.out.below D1.out, D1.out⟩
  have K1 : Hid (Blk w1 w.heap.size 23 (sec.map bv)) := Lib.hid (B0.out.below B1.out B0.out.lt)
  clear own1 gr1 hg
  go_wp2_with (fail)
  go_loopw [27] (fun sv wx => SplRel sec n w (.slice (some ⟨g, 0, none⟩) n n) v draws sv wx) (fun sv _ => n - (intOf sv).toNat)
  case atStart => exact ⟨0, rfl, by omega, S1.out, K1.out⟩
  case round =>
    obtain ⟨i, rfl, hi, hS, hK⟩ := hrel
    by_cases hlt : i < n
    · have hI : (i : Int) < n := by omega
      have f1 : wr.frozen? ⟨g, i * 33, none⟩ = false := hS.1.free _
      have c1 : ∃ u, wr.cell? ⟨g, i * 33, none⟩ = some u := by
        have h := hS.1.cell i 0 (by rw [rows_len, splX_length]; exact hlt) (by decide)
        rw [rows_at _ (by rw [splX_length]; exact hlt)] at h
        have e : (splX n i).getD i [] = (if i < i then UInt8.ofNat (i + 1) else 0) :: List.replicate 32 0 := range_getD _ _ hlt
        rw [e] at h
        exact ⟨_, h⟩
      obtain ⟨u1, c1⟩ := c1
      obtain ⟨x, hx⟩ : ∃ x : UInt8, x = UInt8.ofNat (i + 1) := ⟨_, rfl⟩
      have hxn : x.toNat = i + 1 := by rw [hx, UInt8.toNat_ofNat']; omega
      have eX : IntKind.u8.wrap ((i : Int) + 1) = (x.toNat : Int) := by rw [hxn, IntKind.wrap_u8]; omega
      have HL : Hid (i < (rows (splX n i)).length) := Lib.hid (by rw [rows_len, splX_length]; exact hlt)
      have HD2 : Hid (Below w.heap.size w (wr.setCell ⟨g, i * 33, none⟩ (.int .u8 (x.toNat : Int)))) := Lib.hid (hS.2.2.setCell (p := ⟨g, i * 33, none⟩) (Nat.le_of_lt HG.out) _)
      have HS2 : Hid (RowS w (.slice (some ⟨g, 0, none⟩) n n) (splX n (i + 1)) v draws (wr.setCell ⟨g, i * 33, none⟩ (.int .u8 (x.toNat : Int)))) := Lib.hid ⟨by
        have h := hS.1.stored i 0 (bv x) HL.out (by decide)
        rw [rows_put _ (by rw [splX_length]; exact hlt), hx, splX_set hlt, ← hx] at h
        exact h, HR.out.below HD2.out, HD2.out⟩
      have HK2 : Hid (Blk (wr.setCell ⟨g, i * 33, none⟩ (.int .u8 (x.toNat : Int))) w.heap.size 23 (sec.map bv)) := Lib.hid (hK.other (p := ⟨g, i * 33, none⟩) (Nat.ne_of_lt HG.out) _)
      have HLT := Lib.hid hlt
      clear hS hK hx hxn hi hlt
      go_wp2_with (fail)
      have hlt := HLT.out
      refine ⟨⟨i + 1, by go_num, by omega, HS2.out, HK2.out⟩, by simp [intOf]; omega⟩
    · obtain rfl : i = n := by omega
      have HSS := Lib.hid hS
      have hRG : wr.rangeAt w.heap.size 0 (sec.map bv) := hK.range 0
      have hU := Try.underlying23
      have hIM : (Try.prog.info? 23).map (·.size) = some (sec.map bv).length := by rw [HSM.out]; exact HIK.out
      have SD : ∀ {V : World}, RowS w (.slice (some ⟨g, 0, none⟩) i i) (splX i i) v draws V → RowS w (.slice (some ⟨g, 0, none⟩) i i) (splX i i) v draws V.drew := fun h => h.drew
      have C1 : Hid (∀ V, V.rangeAt w.heap.size 0 (sec.map bv) → RowS w (.slice (some ⟨g, 0, none⟩) i i) (splX i i) v draws V → Calls Try.prog 20 #[] V fun e V' => ∃ B, e = .returned (.pointer (some ⟨B, 0, none⟩)) ∧ Tab V' B ∧ V'.rangeAt w.heap.size 0 (sec.map bv) ∧ RowS w (.slice (some ⟨g, 0, none⟩) i i) (splX i i) v draws V') := Lib.hid fun V h1 h2 => (buildc V).mono fun e V' ⟨B, he, hT, hb⟩ => ⟨B, he, hT, fun j u hu => (hb.cell (p := ⟨w.heap.size, 0 + j, none⟩) (by
          have h := h2.1.lt g rfl
          have := HG.out
          show w.heap.size < _
          omega)).trans (h1 j u hu), h2.on hb⟩
      have C2 : Hid (∀ V B, V.rangeAt w.heap.size 0 (sec.map bv) → RowS w (.slice (some ⟨g, 0, none⟩) i i) (splX i i) v draws V → Tab V B → Calls Try.prog 19 #[.pointer (some ⟨B, 0, none⟩), .slice (some ⟨g, 0, none⟩) i i, .agg (sec.map bv).toArray, .int .i64 (t : Int), v] V fun e V' => e = .returned (.tuple #[]) ∧ V'.rangeAt w.heap.size 0 (sec.map bv) ∧ OwnR 33 V' w.heap.size 31 (.slice (some ⟨g, 0, none⟩) i i) (rows (splitB sec i t draws)) ∧ Below w.heap.size w V') := Lib.hid fun V B hV1 hV2 hT => by
        have hlen := splX_length i i
        obtain ⟨M, hM⟩ : ∃ M, M = splX i i := ⟨_, rfl⟩
        have h2 := hV2
        rw [← hM] at h2 hlen
        have h3 := splX_33 i i
        have h4 := splX_add sec i t draws
        rw [← hM] at h3 h4
        have h1 : RowS w (.slice (some ⟨g, 0, none⟩) M.length i) M v draws V := by rw [hlen]; exact h2
        have h := add_row sec t HS.out HT.out HT2.out (by rw [hlen]; exact HN.out) HD.out h3 HR.out h1 hT
        rw [hlen, h4] at h
        refine h.mono ?_
        rintro e V' ⟨he, ho, hb, hc⟩
        refine ⟨he, fun j u hu => (hc.cell (p := ⟨w.heap.size, 0 + j, none⟩) ?_ ?_).trans (hV1 j u hu), ho, hb⟩
        · have h5 := hV2.1.lt g rfl
          have := HG.out
          show w.heap.size < _
          omega
        · intro hF
          have h5 : g = w.heap.size := by
            unfold FB Value.ownBlock at hF
            simpa using hF
          have := HG.out
          omega
      clear hK hi hlt
      go_wp2_with (fail)
      go_region_held3 (fun V => V.rangeAt w.heap.size 0 (sec.map bv)) (first | assumption | exact range_drew (by assumption))
        (first
          | (go_at_call 20; refine (C1.out _ ?_ ?_).mono ?_; (first | assumption | exact range_drew (by assumption)); (first | assumption | exact SD (by assumption)); rintro e v1 ⟨B1, rfl, t1, r1, s1⟩)
          | (go_at_call 19; refine (C2.out _ _ ?_ ?_ ?_).mono ?_; (first | assumption | exact range_drew (by assumption)); (first | assumption | exact SD (by assumption)); (first | assumption | exact tab_drew (by assumption)); rintro e v2 ⟨rfl, r2, o2, b2⟩))
      all_goals
        have HRF := Lib.hid (rf_of_rows o2)
        have HB2 := Lib.hid b2
        clear o2 b2 r2 hRG hS
        go_wp2_with (fail)
        go_ret2
        exact ⟨_, rfl, HRF.out, HB2.out⟩
end Go.Proofs.Ytpegnafapjcanaa
