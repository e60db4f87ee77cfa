/- The contract of num's tenth: a number of four quarters, divided by ten in its place. Conditions: the pointer leads to a block of four quarters. -/
import Derived.Test.YtenmdogalnhbjaaMem
import Derived.Laws.BitsAllLaws
import Derived.Laws.Rows
namespace Go.Proofs.Ytenmdogalnhbjaa
open Go.RowKit

def u32s (cs : List Nat) : Array Value := (cs.map fun c : Nat => Value.int .u32 (c : Int)).toArray
def Quart (w : World) (b : Nat) (cs : List Nat) : Prop := w.heap[b]? = some (.cells (u32s cs) 55 (0, 0)) ∧ cs.length = 4 ∧ ∀ c ∈ cs, c < 4294967296
def val32 (cs : List Nat) : Nat := cs.foldl (fun n c => n * 4294967296 + c) 0

def TenRel (w : World) (b : Nat) (os : List Nat) (left i : Value) (wr : World) : Prop :=
  ∃ (k l : Nat) (cs : List Nat), i = .int .i64 k ∧ left = .int .u64 l ∧ k ≤ 4 ∧ l < 10 ∧ Quart wr b cs ∧ w.grownBy wr (some b) ∧ val32 (cs.take k) * 10 + l = val32 (os.take k) ∧ cs.drop k = os.drop k

theorem quart_cell {w : World} {b : Nat} {cs : List Nat} (h : Quart w b cs) {k : Nat} (hk : k < cs.length) : w.cell? ⟨b, k, none⟩ = some (.int .u32 (cs[k] : Int)) := by
  rw [cell_of_row w b k _ _ _ h.1]
  simp [u32s, hk]
theorem quart_free {w : World} {b : Nat} {cs : List Nat} (h : Quart w b cs) (k : Nat) : w.frozen? ⟨b, k, none⟩ = false := by
  have h1 := h.1
  simp [World.frozen?, h1]
theorem quart_set {w : World} {b : Nat} {cs : List Nat} (h : Quart w b cs) {k c : Nat} (hc : c < 4294967296) : Quart (w.setCell ⟨b, k, none⟩ (.int .u32 (c : Int))) b (cs.set k c) := by
  refine ⟨?_, by simpa using h.2.1, fun x hx => ?_⟩
  · have h1 := h.1
    simp [World.setCell, Array.getElem?_modify, h1, u32s, List.map_set]
  · rcases List.mem_or_eq_of_mem_set hx with hx | rfl
    · exact h.2.2 x hx
    · exact hc
theorem only_setCell {a w : World} {g : Nat} (h : a.grownBy w (some g)) {p : Addr} (hp : p.block = g) (u : Value) : a.grownBy (w.setCell p u) (some g) :=
  ⟨h.os, h.tape, h.output, by simpa [World.setCell] using h.size, fun i hi hne => (Below.heap_setCell w p u i (fun e => hne (by rw [e, hp]))).trans (h.block i hi hne)⟩
theorem ten_or (l c : Nat) (hl : l < 10) (hc : c < 4294967296) : bits .or .u64 ((l : Int) * 4294967296) (c : Int) = (l : Int) * 4294967296 + (c : Int) := by
  have h1 := u64_or_nat (l * 4294967296) c (by omega) (by omega)
  have h2 := Nat.two_pow_add_eq_or_of_lt (i := 32) (b := c) (by omega) l
  have h3 : ((l * 4294967296 : Nat) : Int) = (l : Int) * 4294967296 := by omega
  rw [← h3]
  rw [h1, show l * 4294967296 = 2 ^ 32 * l by omega, ← h2]
  omega

def TenPost (w : World) (b : Nat) (os : List Nat) (e : Ending) (w' : World) : Prop :=
  ∃ cs, e = .returned (.int .u8 ((val32 os % 10 : Nat) : Int)) ∧ Quart w' b cs ∧ val32 cs = val32 os / 10 ∧ w.grownBy w' (some b)
theorem val32_snoc (cs : List Nat) (c : Nat) : val32 (cs ++ [c]) = val32 cs * 4294967296 + c := by simp [val32]
theorem ten_step {os cs : List Nat} {k l c : Nat} (h4 : cs.length = 4) (hk : k < 4) (hc : cs[k]? = some c) (hv : val32 (cs.take k) * 10 + l = val32 (os.take k)) (hd : cs.drop k = os.drop k) :
    val32 ((cs.set k ((l * 4294967296 + c) / 10)).take (k + 1)) * 10 + (l * 4294967296 + c) % 10 = val32 (os.take (k + 1)) ∧ (cs.set k ((l * 4294967296 + c) / 10)).drop (k + 1) = os.drop (k + 1) := by
  have ho : os[k]? = some c := by
    have h1 : (cs.drop k)[0]? = some c := by simpa using hc
    rw [hd] at h1
    simpa using h1
  have hol : k < os.length := by
    rcases Nat.lt_or_ge k os.length with h | h
    · exact h
    · rw [List.getElem?_eq_none h] at ho; cases ho
  have hoe : os[k] = c := by rw [List.getElem?_eq_getElem hol] at ho; exact Option.some.inj ho
  constructor
  · rw [List.take_succ_eq_append_getElem (by simpa using by omega), List.take_succ_eq_append_getElem hol, val32_snoc, val32_snoc, List.take_set_of_le (Nat.le_refl k), hoe, ← hv]
    simp only [List.getElem_set_self]
    omega
  · rw [List.drop_set_of_lt (by omega), ← List.drop_drop, ← List.drop_drop, hd]

set_option maxRecDepth 100000 in
set_option maxHeartbeats 400000 in
theorem tenth_any (b : Nat) (os : List Nat) (w : World) (h : Quart w b os) :
    Calls Try.prog 29 #[.pointer (some ⟨b, 0, none⟩)] w (TenPost w b os) := by
  go_enter Try.func29, Try.ntmps29
  go_wp2
  go_loopw [3, 6] (fun l i wr => TenRel w b os l i wr) (fun _ i _ => 4 - (intOf i).toNat)
  case atStart => exact ⟨0, 0, os, rfl, rfl, by omega, by omega, h, World.grownBy.refl _ _, by simp [val32], rfl⟩
  case round =>
    obtain ⟨k, l, cs, rfl, rfl, hk, hl, hq, hg, hv, hd⟩ := hrel
    have hlen := hq.2.1
    by_cases hlt : k < 4
    · have hc := quart_cell hq (k := k) (by omega)
      have hfz := quart_free hq k
      have hcb := hq.2.2 cs[k] (List.getElem_mem _)
      obtain ⟨c, hce⟩ : ∃ c, c = cs[k] := ⟨_, rfl⟩
      have HC : Hid (cs[k]? = some c) := by
        rw [hce]
        exact List.getElem?_eq_getElem (by omega)
      rw [← hce] at hc hcb
      have HV := Lib.hid hv
      have HD := Lib.hid hd
      have HO := ten_or l c hl hcb
      have HL := Lib.hid hlen
      have HQ := Lib.hid hq
      clear hv hd hce hlen h hq
      go_wp2
      go_roundw
      case rel =>
        have hs := ten_step HL.out hlt HC.out HV.out HD.out
        have h1 := quart_set HQ.out (k := k) (c := (l * 4294967296 + c) / 10) (by omega)
        have e1 : (((l * 4294967296 + c) / 10 : Nat) : Int) = ((l : Int) * 4294967296 + c) / 10 := by omega
        rw [e1] at h1
        exact ⟨k + 1, (l * 4294967296 + c) % 10, _, by go_num, by go_num, by omega, by omega, h1, only_setCell hg rfl _, hs.1, hs.2⟩
      case measure => simp [intOf]; omega
    · obtain rfl : k = 4 := by omega
      have e1 : cs.take 4 = cs := List.take_of_length_le (by omega)
      have e2 : os.take 4 = os := List.take_of_length_le (by have := h.2.1; omega)
      rw [e1, e2] at hv
      have HV := Lib.hid hv
      have HQ := Lib.hid hq
      have HH := Lib.hid h
      clear hv hd hlen h hq e1 e2
      go_wp2
      go_ret
      refine ⟨cs, ret_i ?_, HQ.out, ?_, hg⟩
      · have := HV.out
        omega
      · have := HV.out
        omega
end Go.Proofs.Ytenmdogalnhbjaa
