/- The tenth reference's Lay: contract. Condition: at most 100000 bytes. -/
import Derived.Test.YtnaccngcpjkmbaaDoorPart17
import Derived.Test.YtnaccngcpjkmbaaDoorPart39
namespace Go.Proofs.YtnaccngcpjkmbaaDoor
open Go.RowKit

/-- The sectors of bytes that are laid with a number. -/
def laysB (bs : List UInt8) (n : Nat) : List (List UInt8) := (List.range (cntS bs.length)).map fun i => pad128 (partS fp8 bs n i)
theorem lays_rsa {bs : List UInt8} {n B : Nat} {w W : World} {v : Value} (h : LyoIs bs n B w (cntS bs.length) v W) (hc : cntS bs.length ≤ 1000) : RsA W v (laysB bs n) := by
  obtain ⟨ls, hls, hrow, hrows⟩ := h.row
  have hll : (laysB bs n).length = cntS bs.length := by simp [laysB]
  obtain ⟨Ap, cp, rfl, hcell⟩ := row_form hrow
  refine ⟨Ap, cp, by rw [hll], by rw [hll]; unfold maxLen; omega, fun i hi => ?_⟩
  rw [hll] at hi
  obtain ⟨g, h1, _, h2, h3⟩ := hcell i ls[i] (List.getElem?_eq_getElem (by omega))
  have hr : Rd W ls[i] (pad128 (partS fp8 bs n i)) := Rd.of_own (hrows i (by omega))
  have e : (laysB bs n)[i]'(by rw [hll]; exact hi) = pad128 (partS fp8 bs n i) := by simp [laysB]
  refine ⟨g, 0, ls[i], h1, h2, by rw [Nat.zero_add]; exact h3, ?_, ?_⟩
  · rw [e]
    exact hr
  · rw [e]
    exact rd_elder hr
theorem zeroSum : (Tryd.prog.info? 66).bind (·.zero) = some (.agg ((List.replicate 32 (0 : UInt8)).map bv).toArray) := by
  kernel_rfl
theorem sizeSum : (Tryd.prog.info? 66).map (·.size) = some 32 := by
  kernel_rfl
set_option maxRecDepth 100000 in
set_option maxHeartbeats 4000000 in
theorem refLay_k {Ab : Option Addr} {cb : Nat} {bs : List UInt8} {n c : Nat} {w : World} (hr : Rd w (.slice Ab bs.length cb) bs) (hl : bs.length ≤ 100000) (hn : (n : Int) ≤ 18446744073709551615) (hc : c = cntS bs.length) (c0 : Nat) (h0 : c0 = (bs.length + 103) / 104) (z : Bool) (hz : ((c0 : Int) == 0) = z) (hz2 : z = true → c = 1) (hz3 : z = false → c = c0) :
    Calls Tryd.prog 16 #[.slice Ab bs.length cb, .int .u64 (n : Int)] w fun e w' => ∃ u, e = .returned u ∧ RsA w' u (laysB bs n) ∧ Below w.heap.size w w' := by
  obtain ⟨m, hm⟩ : ∃ m, m = bs.length + 103 := ⟨_, rfl⟩
  have e1 : IntKind.i64.wrap ((bs.length : Int) + 103) = (m : Int) := by rw [IntWalk.i64_in _ (by omega), hm]; omega
  have e2 : Int.tdiv (m : Int) 104 = (c0 : Int) := by rw [h0, ← hm]; rfl
  have cI : (c0 : Int) ≤ 1000 := by omega
  have HR := Lib.hid hr
  have HS := Lib.hid (refSum_any _ bs w hr (by omega))
  have HH : Hid (c = cntS bs.length ∧ bs.length ≤ 100000 ∧ (n : Int) ≤ 18446744073709551615) := Lib.hid ⟨hc, hl, hn⟩
  have HC3 : Hid (cntS bs.length ≤ 1000) := Lib.hid (by
    unfold cntS
    split <;> omega)
  have HB : Hid (((shaB bs).map bv).length = 32) := Lib.hid (by rw [List.length_map]; simp [shaB, St.bytes, beB_length])
  have HI : Hid ((Tryd.prog.info? 66).map (·.size) = some ((shaB bs).map bv).length) := Lib.hid (by rw [HB.out]; exact sizeSum)
  obtain ⟨zz, hzz⟩ : ∃ zz : List UInt8, zz = List.replicate 32 0 := ⟨_, rfl⟩
  have HZZ := Lib.hid hzz
  have HZ : Hid ((zz.map bv).length = 32) := Lib.hid (by rw [hzz]; rfl)
  obtain ⟨sb, hsb⟩ : ∃ sb, sb = shaB bs := ⟨_, rfl⟩
  rw [← hsb] at HB HI HS
  have HSB := Lib.hid hsb
  clear hr hl hn hc h0 hm hzz hsb
  cases z
  case' true =>
    have HC1 : Hid (c = 1) := Lib.hid (hz2 rfl)
    clear hz2 hz3
    go_enter Tryd.func16, Tryd.ntmps16
    go_wp2_with (fail)
    rw [show Value.int .i64 1 = Value.int .i64 (c : Int) by rw [HC1.out]; rfl]
    clear HC1
  case' false =>
    obtain rfl : c = c0 := hz3 rfl
    clear hz2 hz3
    go_enter Tryd.func16, Tryd.ntmps16
    go_wp2_with (fail)
  all_goals
    refine HS.out.mono ?_
    rintro e w1 ⟨rfl, b1⟩
    obtain ⟨C, hC⟩ : ∃ C, w1.heap.size = C := ⟨_, rfl⟩
    have HN := Lib.hid hC
    have B1 := Lib.hid b1
    clear hC b1 hz
    go_wp2_with (first
      | (with_reducible refine here_alloc ?_
         refine wpList_alloc_w rfl 66 rfl (zz.map bv) (by rw [HZZ.out]; exact zeroSum) C HN.out ?_
         intro w2 k2 b2 z2
         have K2 := Lib.hid k2
         have B2 := Lib.hid (B1.out.trans (b2.mono (by have := HN.out; have := B1.out.size; omega)))
         clear k2 b2 z2)
      | (with_reducible refine here_store ?_
         refine wpList_store_blk rfl 66 _ _ rfl C 66 _ K2.out (sb.map bv) rfl rfl (by rw [HB.out, HZ.out]) HI.out (bv_one _) ?_
         intro w3 k3 s3
         have K3 : Hid (Blk w3 C 66 ((shaB bs).map bv)) := Lib.hid (HSB.out ▸ k3)
         have B3 := Lib.hid (B2.out.trans (s3.below.mono (by have := HN.out; have := B1.out.size; omega)))
         clear k3 s3 B2 K2))
    refine lyo_loop _ _ _ _ _ _ _ _ _ _ _ _ _ _ _ _ _ _ _ _ _ _ _ _ _ _ _ _ _ _ _ _ _ _ _ _ _ _ _ _ _ _ _ _ _ _ _ _ _ _ _ _ _ _ _ _ _ _ _ _ _ Ab cb bs n c w3.heap.size C w3 (Lib.hid (HR.out.below B3.out)) HH K3 (Lib.hid rfl) (Lib.hid ?_)
    intro u8 u9 u18 u19 u20 u21 u22 u23 u24 u25 u26 u27 u28 u29 u30 u31 u32 u33 u34 u35 u36 u37 u38 u39 u40 u41 u42 u43 u44 u45 u46 u47 u48 u49 u50 u51 u52 u53 u54 u55 u56 u57 u58 u59 u60 u61 u62 u63 u64 u65 v W HE
    go_wp2_with (fail)
    go_ret
    have hcc := HH.out.1
    have he := HE.out
    rw [hcc] at he
    exact ⟨v, rfl, lays_rsa he HC3.out, B3.out.trans (he.below.mono B3.out.size)⟩
theorem refLay_any {v : Value} {bs : List UInt8} {n : Nat} {w : World} (hr : Rd w v bs) (hl : bs.length ≤ 100000) (hn : (n : Int) ≤ 18446744073709551615) :
    Calls Tryd.prog 16 #[v, .int .u64 (n : Int)] w fun e w' => ∃ u, e = .returned u ∧ RsA w' u (laysB bs n) ∧ Below w.heap.size w w' := by
  obtain ⟨Ab, cb, rfl, _⟩ := hr.form
  refine refLay_k hr hl hn rfl _ rfl _ rfl (fun h => ?_) fun h => ?_
  · rw [beq_iff_eq] at h
    unfold cntS
    rw [if_pos (by omega)]
  · rw [beq_eq_false_iff_ne] at h
    unfold cntS
    rw [if_neg (by omega)]
end Go.Proofs.YtnaccngcpjkmbaaDoor
