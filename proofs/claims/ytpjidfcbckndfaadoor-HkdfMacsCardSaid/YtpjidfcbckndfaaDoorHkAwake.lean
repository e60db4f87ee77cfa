/- The contract of the third law's awake: the document's example stands. Condition: the table of the rounds as it is laid. -/
import Derived.Test.YtpjidfcbckndfaaDoorHMac
import Derived.Lib.SlBytesConst
namespace Go.Proofs.YtpjidfcbckndfaaDoor
open Go.RowKit

def foxB : List UInt8 := [84, 104, 101, 32, 113, 117, 105, 99, 107, 32, 98, 114, 111, 119, 110, 32, 102, 111, 120, 32, 106, 117, 109, 112, 115, 32, 111, 118, 101, 114, 32, 116, 104, 101, 32, 108, 97, 122, 121, 32, 100, 111, 103]
def foxMac : List UInt8 := [247, 188, 131, 244, 48, 83, 132, 36, 177, 50, 152, 230, 170, 111, 177, 67, 239, 77, 89, 161, 73, 70, 23, 89, 151, 71, 157, 188, 45, 26, 60, 216]
def foxV : Array Value := #[.int .u8 84, .int .u8 104, .int .u8 101, .int .u8 32, .int .u8 113, .int .u8 117, .int .u8 105, .int .u8 99, .int .u8 107, .int .u8 32, .int .u8 98, .int .u8 114, .int .u8 111, .int .u8 119, .int .u8 110, .int .u8 32, .int .u8 102, .int .u8 111, .int .u8 120, .int .u8 32, .int .u8 106, .int .u8 117, .int .u8 109, .int .u8 112, .int .u8 115, .int .u8 32, .int .u8 111, .int .u8 118, .int .u8 101, .int .u8 114, .int .u8 32, .int .u8 116, .int .u8 104, .int .u8 101, .int .u8 32, .int .u8 108, .int .u8 97, .int .u8 122, .int .u8 121, .int .u8 32, .int .u8 100, .int .u8 111, .int .u8 103]
theorem fox_vals : (foxB.map bv).toArray = foxV := by kernel_rfl
theorem key_vals : (([107, 101, 121] : List UInt8).map bv).toArray = #[.int .u8 107, .int .u8 101, .int .u8 121] := by kernel_rfl
theorem mac_fox : macB [107, 101, 121] foxB = foxMac := by decide +kernel
theorem rd_litm {w : World} {t : TypeId} {fr : Nat × Nat} (xs : List UInt8) (n c : Nat) (hn : n = xs.length) (hc : n ≤ c) (hm : c ≤ maxLen) : Rd (w.alloc (.cells (xs.map bv).toArray t fr)) (.slice (some ⟨w.heap.size, 0, none⟩) n c) xs := by
  subst hn
  refine .inr ⟨w.heap.size, 0, c, rfl, by simp, hc, hm, fun i hi => ?_⟩
  rw [Nat.zero_add, cell_of_row _ w.heap.size i _ _ _ (heap_alloc_new w _)]
  simp [bv, hi]
set_option maxRecDepth 100000 in
set_option maxHeartbeats 1000000 in
theorem hkdfAwake_any (w : World) (hs : Salts w) :
    Calls Tryd.prog 6 #[] w fun e w' => e = .returned (.bool true) ∧ Below w.heap.size w w' := by
  have kc := fun (w : World) (C : Array Value) (n c : Nat) => Lib.run_convert_bytes_const (P := Tryd.prog) w 22 5 C n c Tryd.underlying22 Tryd.underlying5
  have kc2 := fun (w : World) (o : Obj) (C : Array Value) (n c : Nat) => Lib.run_convert_bytes_const (P := Tryd.prog) (w.alloc o) 22 5 C n c Tryd.underlying22 Tryd.underlying5
  simp only [World.size_alloc] at kc2
  have HIS : Hid ((Tryd.prog.info? 26).map (·.size) = some 32) := by show _ = _; kernel_rfl
  have HS := Lib.hid hs
  clear hs
  go_enter Tryd.func6, Tryd.ntmps6
  go_wp2_with (fail)
  have D0 : Hid (Below w.heap.size w ((w.alloc (.cells #[.int .u8 107, .int .u8 101, .int .u8 121] 5 (3, 4))).alloc (.cells foxV 5 (43, 44)))) := Lib.hid (((Below.refl _ _).alloc (Nat.le_refl _) _).alloc (by simp) _)
  have RK0 := (rd_litm (w := w) (t := 5) (fr := (3, 4)) [107, 101, 121] 3 3 rfl (by omega) (by unfold maxLen; omega)).alloc (.cells foxV 5 (43, 44))
  have RF0 := rd_litm (w := w.alloc (.cells #[.int .u8 107, .int .u8 101, .int .u8 121] 5 (3, 4))) (t := 5) (fr := (43, 44)) foxB 43 43 rfl (by omega) (by unfold maxLen; omega)
  rw [key_vals] at RK0
  rw [fox_vals, World.size_alloc] at RF0
  have RK := Lib.hid RK0
  have RF := Lib.hid RF0
  clear RK0 RF0
  refine (mac_any _ _ [107, 101, 121] foxB _ RK.out RF.out (by decide) (by decide) (HS.out.below D0.out)).mono ?_
  rintro e w1 ⟨rfl, hb1⟩
  rw [mac_fox]
  obtain ⟨res, hres⟩ := ex_eq1 foxMac
  rw [← hres]
  have LR : Hid ((res.map bv).length = 32) := by show _ = _; rw [List.length_map, hres]; rfl
  have HB1 := Lib.hid (Blk.made w1 26 (List.replicate 32 (Value.int .u8 0)))
  have D1 : Hid (Below w.heap.size w w1) := Lib.hid (D0.out.trans (hb1.mono (by simp; omega)))
  have HE := Lib.hid hres
  clear hb1 RK RF hres kc kc2
  go_wp2_with (refine wpList_store_blk rfl 26 _ _ rfl w1.heap.size 26 _ HB1.out (res.map bv) rfl rfl (by rw [LR.out]; rfl) (by rw [LR.out]; exact HIS.out) (bv_one _) ?_
               intro w2 hb2 hs2
               rw [HE.out] at hb2
               have c0 : w2.cell? ⟨w1.heap.size, 0, none⟩ = some (.int .u8 247) := by rw [hb2.cell]; rfl
               have c1 : w2.cell? ⟨w1.heap.size, 1, none⟩ = some (.int .u8 188) := by rw [hb2.cell]; rfl
               have c2 : w2.cell? ⟨w1.heap.size, 2, none⟩ = some (.int .u8 131) := by rw [hb2.cell]; rfl
               have c3 : w2.cell? ⟨w1.heap.size, 3, none⟩ = some (.int .u8 244) := by rw [hb2.cell]; rfl
               have c31 : w2.cell? ⟨w1.heap.size, 31, none⟩ = some (.int .u8 216) := by rw [hb2.cell]; rfl
               have D2 : Hid (Below w.heap.size w w2) := Lib.hid ((D1.out.alloc D1.out.size (.cells (List.replicate 32 (Value.int .u8 0)).toArray 26)).trans (hs2.below.mono D1.out.size))
               clear hb2 hs2)
  go_ret
  exact ⟨rfl, D2.out⟩
end Go.Proofs.YtpjidfcbckndfaaDoor
