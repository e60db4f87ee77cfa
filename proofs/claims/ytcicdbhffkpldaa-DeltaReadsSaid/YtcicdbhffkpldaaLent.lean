/- The contracts of the reference's Lent and Kept: bytes with room behind them, and that both stand as they were. Conditions: at most 2^40 bytes. -/
import Derived.Test.YtcicdbhffkpldaaPart9
import Derived.Test.YtcicdbhffkpldaaPart1
namespace Go.Proofs.Ytcicdbhffkpldaa
open Go.RowKit

def room (xs : List UInt8) : List UInt8 := xs ++ List.replicate 8 165
theorem room_length (xs : List UInt8) : (room xs).length = xs.length + 8 := by simp [room]
theorem room_low {xs : List UInt8} {j : Nat} (h : j < xs.length) : (room xs)[j]? = some xs[j] := by
  unfold room
  rw [List.getElem?_append_left h, List.getElem?_eq_getElem h]
theorem room_high {xs : List UInt8} {j : Nat} (h : xs.length ≤ j) (h2 : j < xs.length + 8) : (room xs)[j]? = some 165 := by
  unfold room
  rw [List.getElem?_append_right h, List.getElem?_replicate, if_pos (by omega)]
/-- Block g holds the bytes xs and eight bytes of room. -/
def LentAt (w : World) (g : Nat) (xs : List UInt8) : Prop := w.heap[g]? = some (.cells ((room xs).map bv).toArray 5 (0, 0))
theorem LentAt.lt {w : World} {g : Nat} {xs : List UInt8} (h : LentAt w g xs) : g < w.heap.size := by
  rcases Nat.lt_or_ge g w.heap.size with h1 | h1
  · exact h1
  · unfold LentAt at h; rw [Array.getElem?_eq_none h1] at h; cases h
theorem LentAt.below {w w' : World} {g : Nat} {xs : List UInt8} (h : LentAt w g xs) (hb : Below w.heap.size w w') : LentAt w' g xs := (hb.block g h.lt).trans h
theorem LentAt.cell {w : World} {g : Nat} {xs : List UInt8} (h : LentAt w g xs) {j : Nat} {c : UInt8} (hj : (room xs)[j]? = some c) : w.cell? ⟨g, j, none⟩ = some (.int .u8 (c.toNat : Int)) := by
  rw [cell_of_row w g j _ _ _ h]
  simp [hj, bv]
theorem LentAt.rd {w : World} {g : Nat} {xs : List UInt8} (h : LentAt w g xs) (hl : xs.length ≤ 1000000000000) : Rd w (.slice (some ⟨g, 0, none⟩) xs.length (xs.length + 8)) xs := by
  refine .inr ⟨g, 0, xs.length + 8, rfl, h.lt, by omega, by unfold maxLen; omega, fun i hi => ?_⟩
  rw [Nat.zero_add]
  exact h.cell (room_low hi)

def LentPost (w : World) (xs : List UInt8) (e : Ending) (w' : World) : Prop :=
  ∃ g, e = .returned (.slice (some ⟨g, 0, none⟩) xs.length (xs.length + 8)) ∧ LentAt w' g xs ∧ w.heap.size ≤ g ∧ Below w.heap.size w w'
/-- The cells behind j rounds. -/
def lentC (xs : List UInt8) (j : Nat) : List Value := ((room xs).take j).map bv ++ List.replicate (xs.length + 8 - j) (.int .u8 0)
theorem lentC_length (xs : List UInt8) (j : Nat) (h : j ≤ xs.length + 8) : (lentC xs j).length = xs.length + 8 := by
  simp [lentC, room_length]
  omega
theorem lentC_set {xs : List UInt8} {j : Nat} {c : UInt8} (h : (room xs)[j]? = some c) : (lentC xs j).set j (.int .u8 (c.toNat : Int)) = lentC xs (j + 1) := by
  have hj : j < (room xs).length := by
    rcases Nat.lt_or_ge j (room xs).length with h1 | h1
    · exact h1
    · rw [List.getElem?_eq_none h1] at h; cases h
  have hc : (room xs)[j] = c := by rw [List.getElem?_eq_getElem hj] at h; exact Option.some.inj h
  rw [room_length] at hj
  unfold lentC
  rw [List.take_succ_eq_append_getElem (by rw [room_length]; exact hj), hc, List.map_append, show xs.length + 8 - j = (xs.length + 8 - (j + 1)) + 1 by omega, List.replicate_succ]
  rw [List.set_append_right _ _ (by simp [room_length]; omega)]
  have e : j - (List.map bv (List.take j (room xs))).length = 0 := by simp [room_length]; omega
  rw [e]
  simp [bv]
def LentRel (w : World) (g : Nat) (xs : List UInt8) (i : Value) (wr : World) : Prop :=
  ∃ j : Nat, i = .int .i64 j ∧ j ≤ xs.length + 8 ∧ wr.ownsRow w.heap.size 5 1 (.slice (some ⟨g, 0, none⟩) (xs.length + 8) (xs.length + 8)) (xs.length + 8) (lentC xs j) ∧ Below w.heap.size w wr

set_option maxRecDepth 100000 in
set_option maxHeartbeats 400000 in
theorem lent_any (v : Value) (xs : List UInt8) (w : World) (h : Rd w v xs) (hl : xs.length ≤ 1000000000000) :
    Calls Try.prog 17 #[v] w (LentPost w xs) := by
  obtain ⟨i0, hi, hz0, hz1, hz2⟩ := info_parts info_u8
  have HR := Lib.hid h
  obtain ⟨A, c, rfl, hc1, hc2, hA⟩ := h.form
  have HA := Lib.hid hA
  have HLL := Lib.hid hl
  unfold maxLen at hc2
  clear h hA
  go_enter Try.func17, Try.ntmps17
  go_wp2_with (at_make
               refine wpList_make_full _ rfl _ _ _ rfl w.heap.size 5 i0 _ 1 Try.underlying25 hi hz0 hz1 _ _ _ _ (xs.length + 8) rfl rfl ?_ ?_ ?_ ?_ (Nat.le_refl _) ?_
               · omega
               · omega
               · rw [hz2]; omega
               · unfold maxLen; omega
               intro w1 own1 g1)
  go_loopw [4] (fun i wr => LentRel w w.heap.size xs i wr) (fun i _ => xs.length + 8 - (intOf i).toNat)
  case atStart =>
    refine ⟨0, rfl, by omega, ?_, (Below.refl _ _).grown g1 (Nat.le_refl _) (by simp)⟩
    have e : lentC xs 0 = (madeCells (Value.int .u8 0).cells ((xs.length + 8) * 1)).toList := by rw [made_one rfl]; simp [lentC]
    rw [e]
    exact own1
  case round =>
    obtain ⟨j, rfl, hj, own2, hb2⟩ := hrel
    by_cases hlt : j < xs.length + 8
    · have hcell := own2.cellAt (g := w.heap.size) j (by omega)
      have hfr := own2.frozenAt (g := w.heap.size) j
      rw [List.getElem?_eq_getElem (by rw [lentC_length _ _ (by omega)]; omega)] at hcell
      have hst := fun u => own2.stored (g := w.heap.size) j u
      have HST := Lib.hid hst
      clear hst
      by_cases hlo : j < xs.length
      · obtain ⟨b, off, rfl, hb1, hb3⟩ := HA.out (by omega)
        have hc0 := hb2.cell (p := ⟨b, off + j, none⟩) hb1
        rw [hb3 j hlo] at hc0
        have HC : Hid ((room xs)[j]? = some xs[j]) := room_low hlo
        clear hb3
        go_wp2
        go_roundw
        case rel =>
          have h2 := HST.out (.int .u8 (xs[j].toNat : Int))
          rw [lentC_set HC.out] at h2
          exact ⟨j + 1, by go_num, by omega, h2.1, hb2.setCell (by simp) _⟩
        case measure => simp [intOf]; omega
      · have HC : Hid ((room xs)[j]? = some 165) := room_high (by omega) hlt
        go_wp2
        go_roundw
        case rel =>
          have h2 := HST.out (.int .u8 ((165 : UInt8).toNat : Int))
          rw [lentC_set HC.out] at h2
          exact ⟨j + 1, by go_num, by omega, h2.1, hb2.setCell (by simp) _⟩
        case measure => simp [intOf]; omega
    · obtain rfl : j = xs.length + 8 := by omega
      have HL : Hid (LentAt wr w.heap.size xs) := by
        rcases own2.2 with ⟨h0, _⟩ | ⟨g, cap, cur, hv, hg, hh, hn, hcm, hcs, ht⟩
        · cases h0
        · injection hv with e1 e2 e3
          injection e1 with e1
          injection e1 with e1
          subst e1 e3
          have hcur : cur.toList = lentC xs (xs.length + 8) := by
            rw [← ht]
            exact (List.take_of_length_le (by simp; omega)).symm
          have hl2 : lentC xs (xs.length + 8) = (room xs).map bv := by
            unfold lentC
            rw [Nat.sub_self, List.take_of_length_le (by rw [room_length]; omega)]
            simp
          show wr.heap[w.heap.size]? = some _
          rw [hh, ← hl2, ← hcur]
      clear own2
      go_wp2
      go_ret
      exact ⟨w.heap.size, rfl, HL.out, Nat.le_refl _, hb2⟩

theorem same_yes (va vb : Value) (xs : List UInt8) (w : World) (ha : Rd w va xs) (hb : Rd w vb xs) :
    Calls Try.prog 14 #[va, vb] w fun e w' => e = .returned (.bool true) ∧ ∃ n, w' = w.drewN n := by
  have h := same_any va vb xs xs w ha hb
  rw [decide_eq_true rfl] at h
  exact h
set_option maxRecDepth 100000 in
set_option maxHeartbeats 400000 in
theorem kept_any (g : Nat) (v : Value) (xs : List UInt8) (w : World) (hg : LentAt w g xs) (h : Rd w v xs) (hl : xs.length ≤ 1000000000000) :
    Calls Try.prog 18 #[.slice (some ⟨g, 0, none⟩) xs.length (xs.length + 8), v] w fun e w' => e = .returned (.bool true) ∧ ∃ n, w' = w.drewN n := by
  have HSame := Lib.hid (same_yes _ _ xs w (hg.rd hl) h)
  have HG := Lib.hid hg
  clear h hg
  go_enter Try.func18, Try.ntmps18
  go_wp2_with (fail)
  refine HSame.out.mono ?_
  rintro e w1 ⟨rfl, n1, rfl⟩
  go_wp2_with (fail)
  go_loop [6] (fun i => ∃ j : Nat, i = .int .i64 j ∧ xs.length ≤ j ∧ j ≤ xs.length + 8) (fun i => xs.length + 8 - (intOf i).toNat)
  case atStart => exact ⟨xs.length, rfl, by omega, by omega⟩
  case round =>
    obtain ⟨j, rfl, hj, hj2⟩ := hrel
    by_cases hlt : j < xs.length + 8
    · have hc : w.cell? ⟨g, j, none⟩ = some (.int .u8 165) := HG.out.cell (room_high hj hlt)
      go_wp2
      go_round
      case rel => exact ⟨j + 1, by go_num, by omega, by omega⟩
      case measure => simp [intOf]; omega
    · go_wp2
      go_ret
      exact ⟨rfl, n1, rfl⟩
end Go.Proofs.Ytcicdbhffkpldaa
