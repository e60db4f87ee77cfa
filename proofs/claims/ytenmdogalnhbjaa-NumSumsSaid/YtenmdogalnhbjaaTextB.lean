/- The contract of num's Text: a wide number's digits in base 10. Conditions: its halves fit int64 and uint64. -/
import Derived.Test.YtenmdogalnhbjaaText
import Derived.Test.YtenmdogalnhbjaaTenth
import Derived.Test.YtenmdogalnhbjaaArrEq
import Derived.Laws.IdiomStrings
namespace Go.Proofs.Ytenmdogalnhbjaa
open Go.RowKit

/-- The digits of n in base 10, at most so many and one. -/
def decB (f n : Nat) : List UInt8 :=
  match f with
  | 0 => []
  | f + 1 => if n < 10 then [UInt8.ofNat (48 + n)] else decB f (n / 10) ++ [UInt8.ofNat (48 + n % 10)]

def TxtRel (w : World) (hi : Int) (b3 b4 : Nat) (D : List UInt8) (v : Value) (wr : World) : Prop :=
  ∃ (k f : Nat) (cs : List Nat) (ds : List UInt8) (cells : Array Value), v = .int .i64 k ∧ k + ds.length = 40 ∧ f + 1 ≤ k ∧ (k = 40 → f = 39) ∧ Quart wr b3 cs ∧ val32 cs < 10 ^ f ∧
    wr.heap[b4]? = some (.cells cells 57 (0, 0)) ∧ cells.size = 40 ∧ cells.toList.drop k = ds.map bv ∧
    Below w.heap.size w wr ∧ wr.cell? ⟨w.heap.size, 0, none⟩ = some (.int .i64 hi) ∧ w.heap.size < b3 ∧ b3 < b4 ∧ b4 < wr.heap.size ∧
    (if val32 cs = 0 ∧ k ≠ 40 then [] else decB f (val32 cs)) ++ ds = D

theorem info_u32 : (Try.prog.info? 54).map (fun i => (i.zero, i.size, i.bytes)) = some (some (.int .u32 0), 1, 4) := by kernel_rfl
theorem zero4 (c0 c1 c2 c3 : Nat) : ((c0 : Int) == 0 && ((c1 : Int) == 0 && ((c2 : Int) == 0 && (c3 : Int) == 0))) = decide (val32 [c0, c1, c2, c3] = 0) := by
  rw [Bool.eq_iff_iff]
  simp [val32]
  omega
theorem slice40 (W : World) (b j : Nat) (hj : j < 40) (l : Int) (hl : l = (j : Int)) :
    (Instr.sliceAt 57 (.pointer (some ⟨b, 0, none⟩)) (some (.int .i64 l)) none none).run Try.prog W = .ok (.slice (some ⟨b, j, none⟩) (40 - j) (40 - j)) W := by
  subst hl
  obtain ⟨i0, hi0, hz0, hz1, hz2⟩ := info_parts info_u8
  have ha : Try.prog.arrayLen 57 = 40 := by kernel_rfl
  have hel : Try.prog.elem 57 = 5 := by kernel_rfl
  have h := run_sliceAt_array_l (P := Try.prog) W 57 ⟨b, 0, none⟩ (by rw [ha, hel]; exact Try.underlying57) .i64 (j : Int) (by omega) (by rw [ha]; omega)
  rw [h, ha, hel]
  have hs : (sizeOf 5).run Try.prog W = .ok 1 W := by simp [sizeOf, typeInfo, hi0, hz1]
  rw [hs]
  simp only [Result.andThen_ok, slicedAt, Int.toNat_natCast, Nat.mul_one]
  rw [if_neg (by omega)]
  by_cases h0 : j = 0
  · subst h0; rfl
  · simp [Addr.add, h0]
theorem back40 (W : World) (b j : Nat) (cells : Array Value) (ds : List UInt8) (hb : W.heap[b]? = some (.cells cells 57 (0, 0))) (hj : j + ds.length = 40) (hd : cells.toList.drop j = ds.map bv) :
    (convert 22 9 (.slice (some ⟨b, j, none⟩) (40 - j) (40 - j))).run Try.prog W = .ok (.string ⟨ds.toArray⟩) W := by
  rw [show 40 - j = ds.length by omega]
  refine run_convert_bytes_back W 22 9 5 ⟨b, j, none⟩ _ ds Try.underlying22 Try.underlying5 Try.underlying9 fun i hi => ?_
  have e : ((⟨b, j, none⟩ : Addr).add i) = ⟨b, j + i, none⟩ := by
    by_cases h0 : i = 0
    · subst h0; rfl
    · simp [Addr.add, h0]
  rw [e, cell_of_row W b (j + i) _ _ _ hb]
  have h1 : (cells.toList.drop j)[i]? = some (bv ds[i]) := by rw [hd, List.getElem?_map, List.getElem?_eq_getElem hi]; rfl
  rw [List.getElem?_drop, Array.getElem?_toList] at h1
  exact h1
theorem minus_drop {cells : Array Value} {k : Nat} {ds : List UInt8} (hs : cells.size = 40) (h1 : 1 ≤ k) (h2 : k < 40) (hd : cells.toList.drop k = ds.map bv) :
    (cells.setIfInBounds (k - 1) (.int .u8 45)).toList.drop (k - 1) = (45 :: ds).map bv := by
  rw [Array.toList_setIfInBounds, List.map_cons]
  have e1 : k - 1 + 1 = k := by omega
  have e2 : k - 1 < (cells.toList.set (k - 1) (.int .u8 45)).length := by simp; omega
  rw [List.drop_eq_getElem_cons e2, e1, List.drop_set_of_lt (by omega), hd, List.getElem_set_self]
  rfl
theorem dec_step {f n k : Nat} {ds D : List UInt8} (hn : n < 10 ^ f) (hk : k = 40 ∨ n ≠ 0) (hf : k = 40 → f = 39) (hk4 : k ≤ 40) (h : (if n = 0 ∧ k ≠ 40 then [] else decB f n) ++ ds = D) :
    ∃ g, f = g + 1 ∧ n / 10 < 10 ^ g ∧ (if n / 10 = 0 ∧ k - 1 ≠ 40 then [] else decB g (n / 10)) ++ (UInt8.ofNat (48 + n % 10) :: ds) = D := by
  have hc : ¬ (n = 0 ∧ k ≠ 40) := by omega
  rw [if_neg hc] at h
  cases f with
  | zero => simp at hn; omega
  | succ g =>
    refine ⟨g, rfl, Nat.div_lt_of_lt_mul (by rw [Nat.pow_succ] at hn; rw [Nat.mul_comm]; exact hn), ?_⟩
    rw [decB] at h
    by_cases h10 : n < 10
    · rw [if_pos h10] at h
      by_cases h40 : k - 1 = 40
      · omega
      · rw [if_pos ⟨by omega, h40⟩, ← h, show n % 10 = n by omega]
        rfl
    · rw [if_neg h10] at h
      rw [if_neg (by omega), ← h]
      simp
theorem txt_step {w wr w2 : World} {hi : Int} {b3 b4 : Nat} {D : List UInt8} {k f : Nat} {cs cs2 : List Nat} {ds : List UInt8} {cells : Array Value}
    (hkd : k + ds.length = 40) (hfk : f + 1 ≤ k) (hf : k = 40 → f = 39) (hv : val32 cs < 10 ^ f) (hc : k = 40 ∨ val32 cs ≠ 0) (hsz : cells.size = 40) (hdr : cells.toList.drop k = ds.map bv)
    (hbel : Below w.heap.size w wr) (hbox : wr.cell? ⟨w.heap.size, 0, none⟩ = some (.int .i64 hi)) (o1 : w.heap.size < b3) (o2 : b3 < b4) (o3 : b4 < wr.heap.size)
    (heq : (if val32 cs = 0 ∧ k ≠ 40 then [] else decB f (val32 cs)) ++ ds = D) (hg : wr.grownBy w2 (some b3)) (hq : Quart w2 b3 cs2) (hv2 : val32 cs2 = val32 cs / 10)
    (hb : w2.heap[b4]? = some (.cells cells 57 (0, 0))) {dg : Nat} (hd : dg = val32 cs % 10) :
    TxtRel w hi b3 b4 D (.int .i64 ((k : Int) - 1)) (w2.setCell ⟨b4, k - 1, none⟩ (.int .u8 (48 + (dg : Int)))) := by
  obtain ⟨g, rfl, h1, h2⟩ := dec_step hv hc hf (by omega) heq
  have hdg : (48 + (dg : Int)) = ((UInt8.ofNat (48 + dg)).toNat : Int) := by rw [UInt8.toNat_ofNat']; omega
  subst hd
  refine ⟨k - 1, g, cs2, UInt8.ofNat (48 + val32 cs % 10) :: ds, cells.setIfInBounds (k - 1) (.int .u8 (48 + ((val32 cs % 10 : Nat) : Int))), ?_, by simp; omega, by omega, by omega, ?_, by omega, ?_, by simpa using hsz, ?_, ?_, ?_, o1, o2, ?_, ?_⟩
  · rw [show ((k - 1 : Nat) : Int) = (k : Int) - 1 by omega]
  · exact ⟨(Below.heap_setCell _ _ _ _ (by simp; omega)).trans hq.1, hq.2⟩
  · simp [World.setCell, Array.getElem?_modify, hb]
  · rw [Array.toList_setIfInBounds, List.map_cons]
    have e1 : k - 1 + 1 = k := by omega
    have e2 : k - 1 < (cells.toList.set (k - 1) (.int .u8 (48 + ((val32 cs % 10 : Nat) : Int)))).length := by simp; omega
    rw [List.drop_eq_getElem_cons e2, e1, List.drop_set_of_lt (by omega), hdr, List.getElem_set_self, bv, hdg]
  · refine Below.setCell (hbel.grown hg hbel.size ?_) ?_ _
    · intro j hj; injection hj with hj; omega
    · show w.heap.size ≤ b4; omega
  · rw [World.cell?_setCell_other _ _ _ _ (by intro e; injection e with e; omega), hg.cell_far _ (by show w.heap.size < wr.heap.size; omega) (by simp; omega)]
    exact hbox
  · have := hg.size
    simp [World.setCell]
    omega
  · rw [hv2]; exact h2

/-- The text of a wide number whose size has the digits D. -/
def sgn (hi : Int) (D : List UInt8) : List UInt8 := if hi < 0 then 45 :: D else D
def TxtPost (w : World) (X : List UInt8) (e : Ending) (w' : World) : Prop := e = .returned (.string ⟨X.toArray⟩) ∧ Below w.heap.size w w'
theorem sgn_neg {hi : Int} {D : List UInt8} (h : hi < 0) : sgn hi D = 45 :: D := if_pos h
theorem sgn_pos {hi : Int} {D : List UInt8} (h : ¬ hi < 0) : sgn hi D = D := if_neg h
theorem abs_in (hi lo : Int) (h1 : -9223372036854775808 ≤ hi) (h2 : hi ≤ 9223372036854775807) (h3 : 0 ≤ lo) (h4 : lo ≤ 18446744073709551615) :
    0 ≤ absH hi lo ∧ absH hi lo ≤ 9223372036854775808 ∧ 0 ≤ absL hi lo ∧ absL hi lo ≤ 18446744073709551615 := by
  unfold absH absL
  split
  · omega
  · split <;> omega
theorem txt_start {w w1 : World} {hi lo : Int} {b3 b4 N q0 q1 q2 q3 : Nat} (hb1 : Below (w.alloc (.cells #[.int .i64 hi, .int .u64 lo] 35)).heap.size (w.alloc (.cells #[.int .i64 hi, .int .u64 lo] 35)) w1)
    (h3 : b3 = w1.heap.size) (h4 : b4 = w1.heap.size + 1) (hq : q0 < 4294967296 ∧ q1 < 4294967296 ∧ q2 < 4294967296 ∧ q3 < 4294967296) (hv : val32 [q0, q1, q2, q3] = N) (hN : N < 10 ^ 39) :
    TxtRel w hi b3 b4 (decB 39 N) (.int .i64 40) ((w1.alloc (.cells #[.int .u32 q0, .int .u32 q1, .int .u32 q2, .int .u32 q3] 55)).alloc (.cells (List.replicate 40 (.int .u8 0)).toArray 57)) := by
  have hs := hb1.size
  simp at hs
  have hb2 : Below w.heap.size w w1 := ((Below.refl _ _).alloc (Nat.le_refl _) _).trans (hb1.mono (by simp))
  refine ⟨40, 39, [q0, q1, q2, q3], [], (List.replicate 40 (.int .u8 0)).toArray, rfl, by simp, by omega, fun _ => rfl, ⟨?_, rfl, ?_⟩, by rw [hv]; exact hN, ?_, by simp, by simp, ?_, ?_, by omega, by omega, by simp; omega, ?_⟩
  · rw [Below.heap_alloc _ _ _ (by simp; omega), h3]
    exact heap_alloc_new _ _
  · intro c hc
    simp at hc
    omega
  · rw [show b4 = (w1.alloc (.cells #[.int .u32 q0, .int .u32 q1, .int .u32 q2, .int .u32 q3] 55)).heap.size by simp; omega]
    exact heap_alloc_new _ _
  · exact (hb2.alloc hb2.size _).alloc (by simp; omega) _
  · rw [World.cell?_alloc_lt _ _ _ (by simp; omega), World.cell?_alloc_lt _ _ _ (by simp; omega), hb1.cell (p := ⟨w.heap.size, 0, none⟩) (by simp)]
    simp
  · rw [if_neg (by omega), hv]
    simp

set_option maxRecDepth 100000 in
set_option maxHeartbeats 1000000 in
theorem text_any (hi lo : Int) (w : World) (h1 : -9223372036854775808 ≤ hi) (h2 : hi ≤ 9223372036854775807) (h3 : 0 ≤ lo) (h4 : lo ≤ 18446744073709551615) (N : Nat) (hN : (N : Int) = absH hi lo * 18446744073709551616 + absL hi lo) :
    Calls Try.prog 19 #[.agg #[.int .i64 hi, .int .u64 lo]] w (TxtPost w (sgn hi (decB 39 N))) := by
  have hab := abs_in hi lo h1 h2 h3 h4
  have hN39 : N < 10 ^ 39 := by omega
  obtain ⟨D, hD⟩ : ∃ D, D = decB 39 N := ⟨_, rfl⟩
  rw [← hD]
  have HD := Lib.hid hD
  have HN := Lib.hid (And.intro hN hN39)
  have HA := Lib.hid hab
  clear hD hN hN39 hab
  go_enter Try.func19, Try.ntmps19
  go_wp2_with (fail)
  refine (apart_any hi lo _ h1 h2 h3 h4).mono ?_
  rintro e w1 ⟨rfl, hb1⟩
  obtain ⟨q0, hq0⟩ : ∃ q : Nat, absH hi lo / 4294967296 = (q : Int) := ⟨(absH hi lo / 4294967296).toNat, by have := HA.out; omega⟩
  obtain ⟨q1, hq1⟩ : ∃ q : Nat, absH hi lo % 4294967296 = (q : Int) := ⟨(absH hi lo % 4294967296).toNat, by have := HA.out; omega⟩
  obtain ⟨q2, hq2⟩ : ∃ q : Nat, absL hi lo / 4294967296 = (q : Int) := ⟨(absL hi lo / 4294967296).toNat, by have := HA.out; omega⟩
  obtain ⟨q3, hq3⟩ : ∃ q : Nat, absL hi lo % 4294967296 = (q : Int) := ⟨(absL hi lo % 4294967296).toNat, by have := HA.out; omega⟩
  unfold quarters
  rw [hq0, hq1, hq2, hq3]
  have HQ : Hid ((q0 < 4294967296 ∧ q1 < 4294967296 ∧ q2 < 4294967296 ∧ q3 < 4294967296) ∧ val32 [q0, q1, q2, q3] = N) := by
    have e1 := HA.out
    have e2 := HN.out.1
    refine ⟨by omega, ?_⟩
    simp [val32]
    omega
  clear hq0 hq1 hq2 hq3
  go_wp2_with (fail)
  obtain ⟨b3, hb3⟩ : ∃ b, b = w1.heap.size := ⟨_, rfl⟩
  obtain ⟨b4, hb4⟩ : ∃ b, b = w1.heap.size + 1 := ⟨_, rfl⟩
  rw [← hb4, ← hb3]
  have H3 := Lib.hid hb3
  have H4 := Lib.hid hb4
  clear hb3 hb4
  go_loopw [5] (fun v wr => TxtRel w hi b3 b4 D v wr) (fun v _ => (intOf v).toNat)
  case atStart =>
    rw [HD.out]
    exact txt_start hb1 H3.out H4.out HQ.out.1 HQ.out.2 HN.out.2
  case round =>
    obtain ⟨k, f, cs, ds, cells, rfl, hkd, hfk, hf39, hq, hv, hblk, hsz, hdr, hbel, hbox, o1, o2, o3, heq⟩ := hrel
    have hk1 : 1 ≤ k := by omega
    have hk2 : k ≤ 40 := by omega
    by_cases hk : k = 40
    · have k1 : ((k : Int) == 40) = true := by simp; omega
      have HK := Lib.hid hk
      have HQQ := Lib.hid hq
      have HV := Lib.hid hv
      have HBL := Lib.hid hblk
      have HSZ := Lib.hid hsz
      have HDR := Lib.hid hdr
      have HEQ := Lib.hid heq
      have HKD := Lib.hid hkd
      have HF := Lib.hid hf39
      clear hf39 hk hq hv hblk hsz hdr heq hkd
      go_wp2_with (fail)
      refine (tenth_any b3 cs _ HQQ.out).mono ?_
      rintro e w2 ⟨cs2, rfl, hq2, hv2, hg2⟩
      obtain ⟨dg, hdg⟩ : ∃ dg, dg = val32 cs % 10 := ⟨_, rfl⟩
      rw [← hdg]
      have hdl : dg < 10 := by omega
      have hblk2 : w2.heap[b4]? = some (.cells cells 57 (0, 0)) := (hg2.block b4 o3 (by simp; omega)).trans HBL.out
      have hst : w2.cell? ⟨b4, k - 1, none⟩ = cells[k - 1]? := cell_of_row w2 b4 (k - 1) _ _ _ hblk2
      rw [Array.getElem?_eq_getElem (by have := HSZ.out; have := HKD.out; omega)] at hst
      have hfr : w2.frozen? ⟨b4, k - 1, none⟩ = false := by simp [World.frozen?, hblk2]
      have HQ2 := Lib.hid hq2
      have HV2 := Lib.hid hv2
      have HDG := Lib.hid hdg
      have HB2 := Lib.hid hblk2
      clear hq2 hv2 hdg hblk2
      go_wp2_with (fail)
      exact ⟨txt_step HKD.out hfk HF.out HV.out (.inl HK.out) HSZ.out HDR.out hbel hbox o1 o2 o3 HEQ.out hg2 HQ2.out HV2.out HB2.out HDG.out, by simp [intOf]; omega⟩
    · have k1 : ((k : Int) == 40) = false := by simp; omega
      have hq' := hq
      obtain ⟨hq1, hq2, hq3⟩ := hq'
      obtain ⟨c0, c1, c2, c3, rfl⟩ : ∃ c0 c1 c2 c3, cs = [c0, c1, c2, c3] := by
        match cs, hq2 with
        | [c0, c1, c2, c3], _ => exact ⟨c0, c1, c2, c3, rfl⟩
      have d0 := quart_cell hq (k := 0) (by simp)
      have d1 := quart_cell hq (k := 1) (by simp)
      have d2 := quart_cell hq (k := 2) (by simp)
      have d3 := quart_cell hq (k := 3) (by simp)
      simp at d0 d1 d2 d3
      have HK := Lib.hid hk
      have HQQ := Lib.hid hq
      have HV := Lib.hid hv
      have HBL := Lib.hid hblk
      have HSZ := Lib.hid hsz
      have HDR := Lib.hid hdr
      have HEQ := Lib.hid heq
      have HKD := Lib.hid hkd
      have HF := Lib.hid hf39
      have hx : ∀ W, (Op.equalIn 10000 55 (.agg #[.int .u32 (c0 : Int), .int .u32 (c1 : Int), .int .u32 (c2 : Int), .int .u32 (c3 : Int)]) (.agg #[.int .u32 0, .int .u32 0, .int .u32 0, .int .u32 0])).run Try.prog W = .ok (decide (val32 [c0, c1, c2, c3] = 0)) W := by
        intro W
        obtain ⟨i0, hi0, hz0, hz1, hz2⟩ := info_parts info_u32
        refine (run_equalIn_arr4 W 9998 55 54 i0 Try.underlying55 Try.underlying54 hi0 hz1 c0 c1 c2 c3 0 0 0 0).trans ?_
        congr 1
        exact zero4 c0 c1 c2 c3
      clear hf39 hk hq hv hblk hsz hdr heq hkd hq1 hq2 hq3
      by_cases hnz : val32 [c0, c1, c2, c3] = 0
      · have hy : decide (val32 [c0, c1, c2, c3] = 0) = true := by simpa using hnz
        have HN0 := Lib.hid hnz
        rw [hy] at hx
        clear hy hnz
        have hkl : k < 40 := by have := HK.out; omega
        have HX : Hid (D = ds) := by
          have h := HEQ.out
          rw [if_pos ⟨HN0.out, HK.out⟩] at h
          exact h.symm
        have hsl : ∀ W : World, (Instr.sliceAt 57 (.pointer (some ⟨b4, 0, none⟩)) (some (.int .i64 (k : Int))) none none).run Try.prog W = .ok (.slice (some ⟨b4, k, none⟩) (40 - k) (40 - k)) W := fun W => slice40 W b4 k hkl _ rfl
        have hsl1 : ∀ W : World, (Instr.sliceAt 57 (.pointer (some ⟨b4, 0, none⟩)) (some (.int .i64 ((k : Int) - 1))) none none).run Try.prog W = .ok (.slice (some ⟨b4, k - 1, none⟩) (40 - (k - 1)) (40 - (k - 1))) W := fun W => slice40 W b4 (k - 1) (by omega) _ (by omega)
        by_cases hneg : hi < 0
        · have hst : wr.cell? ⟨b4, k - 1, none⟩ = cells[k - 1]? := cell_of_row wr b4 (k - 1) _ _ _ HBL.out
          rw [Array.getElem?_eq_getElem (by have := HSZ.out; have := HKD.out; omega)] at hst
          have hfr : wr.frozen? ⟨b4, k - 1, none⟩ = false := by have h := HBL.out; simp [World.frozen?, h]
          have hcv := back40 (wr.setCell ⟨b4, k - 1, none⟩ (.int .u8 45)) b4 (k - 1) (cells.setIfInBounds (k - 1) (.int .u8 45)) (45 :: ds) (by have h := HBL.out; simp [World.setCell, Array.getElem?_modify, h]) (by have := HKD.out; simp; omega) (minus_drop HSZ.out hk1 hkl HDR.out)
          go_wp2_with (fail)
          go_ret
          rw [sgn_neg hneg, HX.out]
          exact ⟨rfl, hbel.setCell (by show w.heap.size ≤ b4; omega) _⟩
        · have hcv := back40 wr b4 k cells ds HBL.out (by have := HKD.out; omega) HDR.out
          go_wp2_with (fail)
          go_ret
          rw [sgn_pos (by omega), HX.out]
          exact ⟨rfl, hbel⟩
      · have hy : decide (val32 [c0, c1, c2, c3] = 0) = false := by simpa using hnz
        have HN0 := Lib.hid hnz
        rw [hy] at hx
        clear hy hnz
        go_wp2_with (fail)
        refine (tenth_any b3 _ _ HQQ.out).mono ?_
        rintro e w2 ⟨cs2, rfl, hq2, hv2, hg2⟩
        obtain ⟨dg, hdg⟩ : ∃ dg, dg = val32 [c0, c1, c2, c3] % 10 := ⟨_, rfl⟩
        rw [← hdg]
        have hdl : dg < 10 := by omega
        have hblk2 : w2.heap[b4]? = some (.cells cells 57 (0, 0)) := (hg2.block b4 o3 (by simp; omega)).trans HBL.out
        have hst : w2.cell? ⟨b4, k - 1, none⟩ = cells[k - 1]? := cell_of_row w2 b4 (k - 1) _ _ _ hblk2
        rw [Array.getElem?_eq_getElem (by have := HSZ.out; have := HKD.out; omega)] at hst
        have hfr : w2.frozen? ⟨b4, k - 1, none⟩ = false := by simp [World.frozen?, hblk2]
        have HQ2 := Lib.hid hq2
        have HV2 := Lib.hid hv2
        have HDG := Lib.hid hdg
        have HB2 := Lib.hid hblk2
        clear hq2 hv2 hdg hblk2
        go_wp2_with (fail)
        exact ⟨txt_step HKD.out hfk HF.out HV.out (.inr HN0.out) HSZ.out HDR.out hbel hbox o1 o2 o3 HEQ.out hg2 HQ2.out HV2.out HB2.out HDG.out, by simp [intOf]; omega⟩
end Go.Proofs.Ytenmdogalnhbjaa
