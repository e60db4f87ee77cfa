/- The contract of the second law's awake: the document's example stands. Condition: the table of the rounds as it is laid. -/
import Derived.Test.YtjinhgomhdlboaaDoorOf
import Derived.Test.YtjinhgomhdlboaaDoorShaHex
import Derived.Test.YtjinhgomhdlboaaDoorShort
import Derived.Lib.SlBytesConst
namespace Go.Proofs.YtjinhgomhdlboaaDoor
open Go.RowKit

def abcHex : List UInt8 := [98, 97, 55, 56, 49, 54, 98, 102, 56, 102, 48, 49, 99, 102, 101, 97, 52, 49, 52, 49, 52, 48, 100, 101, 53, 100, 97, 101, 50, 50, 50, 51, 98, 48, 48, 51, 54, 49, 97, 51, 57, 54, 49, 55, 55, 97, 57, 99, 98, 52, 49, 48, 102, 102, 54, 49, 102, 50, 48, 48, 49, 53, 97, 100]
theorem hex_abc : hexB [186, 120, 22, 191, 143, 1, 207, 234, 65, 65, 64, 222, 93, 174, 34, 35, 176, 3, 97, 163, 150, 23, 122, 156, 180, 16, 255, 97, 242, 0, 21, 173] = abcHex := by decide +kernel
theorem rd_const {w : World} {t : TypeId} : Rd (w.alloc (.cells #[.int .u8 97, .int .u8 98, .int .u8 99] t (3, 4))) (.slice (some ⟨w.heap.size, 0, none⟩) 3 3) [97, 98, 99] := by
  refine .inr ⟨w.heap.size, 0, 3, rfl, by simp, by simp, by unfold maxLen; omega, fun i hi => ?_⟩
  rw [Nat.zero_add, cell_of_row _ w.heap.size i _ _ _ (heap_alloc_new w _)]
  have h : i = 0 ∨ i = 1 ∨ i = 2 := by simp at hi; omega
  rcases h with rfl | rfl | rfl <;> rfl
theorem rs_one {w : World} {v : Value} {xs : List UInt8} {t : TypeId} (h : Rd w v xs) : Rs (w.alloc (.cells #[v] t)) (.slice (some ⟨w.heap.size, 0, none⟩) 1 1) [xs] := by
  refine ⟨w.heap.size, 1, rfl, by simp, fun i hi => ?_⟩
  obtain rfl : i = 0 := by simpa using hi
  refine ⟨v, ?_, h.alloc _⟩
  rw [cell_of_row _ w.heap.size 0 _ _ _ (heap_alloc_new w _)]
  rfl
set_option maxRecDepth 100000 in
set_option maxHeartbeats 400000 in
theorem shaAwake_any (w : World) (hk : Salts w) :
    Calls Tryd.prog 5 #[] w fun e w' => e = .returned (.bool true) ∧ Below w.heap.size w w' := by
  have kc := fun (w : World) (C : Array Value) (n c : Nat) => Lib.run_convert_bytes_const (P := Tryd.prog) w 22 5 C n c Tryd.underlying22 Tryd.underlying5
  have HI : Hid ((Tryd.prog.info? 27).map (·.size) = some 32) := by show _ = _; kernel_rfl
  have hrs := rs_one (t := 22) (rd_const (w := w) (t := 5))
  simp only [World.size_alloc] at hrs
  have HRS := Lib.hid hrs
  have HK := Lib.hid hk
  clear hk hrs
  go_enter Tryd.func5, Tryd.ntmps5
  go_wp2_with (fail)
  refine (of_any _ [[97, 98, 99]] _ HRS.out (by decide) (by decide) ((HK.out.alloc _).alloc _)).mono ?_
  rintro e w1 ⟨rfl, hb1⟩
  rw [show List.flatten [[97, 98, 99]] = ([97, 98, 99] : List UInt8) from rfl]
  have hx : hexB (shaB [97, 98, 99]) = abcHex := by rw [sha_abc]; exact hex_abc
  have hl : (shaB [97, 98, 99]).length = 32 := by rw [sha_abc]; rfl
  obtain ⟨xs, hxs⟩ : ∃ xs, xs = shaB [97, 98, 99] := ⟨_, rfl⟩
  rw [← hxs] at hx hl ⊢
  have HX := Lib.hid hx
  have HL : Hid ((xs.map bv).length = 32) := by show _ = _; rw [List.length_map, hl]
  have HL2 := Lib.hid hl
  have HM := Lib.hid (Blk.made w1 27 (List.replicate 32 (Value.int .u8 0)))
  have D1 : Hid (Below w.heap.size w w1) := Lib.hid ((((Below.refl w.heap.size w).alloc (Nat.le_refl _) (.cells #[.int .u8 97, .int .u8 98, .int .u8 99] 5 (3, 4))).alloc (by simp) (.cells #[.slice (some ⟨w.heap.size, 0, none⟩) 3 3] 22)).trans (hb1.mono (by simp; omega)))
  clear hx hl hxs hb1
  go_wp2_with (refine wpList_store_blk rfl 27 _ _ rfl w1.heap.size 27 _ HM.out (xs.map bv) rfl rfl (by rw [HL.out]; rfl) (by rw [HL.out]; exact HI.out) (bv_one _) ?_; intro w2 hb2 hs2)
  have hrd := hb2.rd 32 32 (by rw [HL2.out]; omega) (by omega) (by unfold maxLen; omega)
  rw [List.take_of_length_le (by rw [HL2.out]; omega)] at hrd
  have D2 : Hid (Below w.heap.size w w2) := Lib.hid ((D1.out.alloc D1.out.size (.cells (List.replicate 32 (Value.int .u8 0)).toArray 27)).trans (hs2.below.mono D1.out.size))
  have HR := Lib.hid hrd
  clear hb2 hs2 hrd
  go_wp2_with (fail)
  refine (shaHex_any _ xs _ HR.out (by rw [HL2.out]; omega)).mono ?_
  rintro e w3 ⟨rfl, hb3⟩
  rw [HX.out]
  unfold abcHex
  have D3 := Lib.hid (D2.out.trans (hb3.mono D2.out.size))
  clear hb3
  go_wp2_with (fail)
  go_ret
  exact ⟨rfl, D3.out⟩
end Go.Proofs.YtjinhgomhdlboaaDoor
