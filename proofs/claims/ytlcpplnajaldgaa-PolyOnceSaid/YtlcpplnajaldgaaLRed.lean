/- The contract of poly's reduced: limbs of 26 bits, but for the second one, of the same number modulo 2^130 - 5. Conditions: five limbs, none above 2^60. -/
import Derived.Test.YtlcpplnajaldgaaLPlus
import Derived.Deep.Cut
namespace Go.Proofs.Ytlcpplnajaldgaa
open Go.RowKit

theorem ex_w (x : World) : ∃ z, z = x := ⟨x, rfl⟩
def RedPost (w : World) (V : Nat) (e : Ending) (w' : World) : Prop := ∃ R : List Nat, e = .returned (.agg (R.map wq).toArray) ∧ RedP R ∧ lv R % p130 = V % p130 ∧ Below w.heap.size w w'
set_option maxRecDepth 100000 in
set_option maxHeartbeats 2000000 in
theorem reduced_any (ns : List Nat) (V : Nat) (w : World) (hp : HanP ns 0 0 V) :
    Calls Try.prog 30 #[.agg (ns.map wq).toArray] w (RedPost w V) := by
  have HI : Hid ((Try.prog.info? 46).map (·.size) = some 5) := Lib.hid num_info
  obtain ⟨W1, hW1⟩ : ∃ W : World, W = (w.alloc (.cells (ns.map wq).toArray 46)).alloc (.cells (List.replicate 5 (Value.int .u64 0)).toArray 46) := ⟨_, rfl⟩
  have D1 : Hid (Below w.heap.size w W1) := Lib.hid (by rw [hW1]; exact ((Below.refl _ _).alloc (Nat.le_refl _) _).alloc (by simp) _)
  have A1 : Hid (Blk W1 w.heap.size 46 (ns.map wq)) := Lib.hid (by rw [hW1]; exact (Blk.made w _ _).alloc _)
  have R1 : Hid (Blk W1 (w.heap.size + 1) 46 (List.replicate 5 (Value.int .u64 0))) := Lib.hid (by
    have h := Blk.made (w.alloc (.cells (ns.map wq).toArray 46)) 46 (List.replicate 5 (Value.int .u64 0))
    rw [World.size_alloc] at h
    rw [hW1]
    exact h)
  have HP := Lib.hid hp
  clear hp
  have HC : Hid (Calls Try.prog 31 #[.pointer (some ⟨w.heap.size, 0, none⟩)] W1 (HanPost W1 w.heap.size 46 V)) := Lib.hid (han_any w.heap.size V _ ns W1 A1.out HP.out)
  subst hW1
  go_enter Try.func30, Try.ntmps30
  go_wp2_with (first
               | refine Go.Great.wpList_boxTo rfl _ _ rfl _ rfl w.heap.size rfl ((ns.map wq).toArray) rfl ?_)
  refine (HC.out).mono ?_
  rintro e w2 ⟨c, out, rfl, hh, hb, hs⟩
  obtain ⟨a, ha⟩ : ∃ a, a = out.getD 0 0 := ⟨_, rfl⟩
  obtain ⟨b, hbb⟩ : ∃ b, b = out.getD 1 0 := ⟨_, rfl⟩
  have hr := red_of hh ha hbb
  have c0 := rq_cell hb (i := 0) (by rw [hh.1]; omega)
  have c1 := rq_cell hb (i := 1) (by rw [hh.1]; omega)
  rw [← ha] at c0
  rw [← hbb] at c1
  have f0 : w2.frozen? ⟨w.heap.size, 0, none⟩ = false := hb.free _
  have f1 : w2.frozen? ⟨w.heap.size, 1, none⟩ = false := hb.free _
  have al : a < 67108864 := by rw [ha]; exact hh.2.2.1 0 (by omega) (by omega)
  have bl : b < 67108864 := by rw [hbb]; exact hh.2.2.1 1 (by omega) (by omega)
  have cl := hh.2.2.2.2
  obtain ⟨g, hg⟩ : ∃ g, g = a + c * 5 := ⟨_, rfl⟩
  obtain ⟨d, hd⟩ : ∃ d, d = g / 67108864 := ⟨_, rfl⟩
  obtain ⟨m, hm⟩ : ∃ m, m = g % 67108864 := ⟨_, rfl⟩
  obtain ⟨x, hx⟩ : ∃ x, x = b + d := ⟨_, rfl⟩
  rw [← hg, ← hd, ← hm, ← hx] at hr
  have HR := Lib.hid hr
  have HA := and26 g (by omega)
  rw [← hm] at HA
  have gI : (a : Int) + (c : Int) * 5 = (g : Int) := by omega
  have dI : (g : Int) / 67108864 = (d : Int) := by omega
  have xI : (b : Int) + (d : Int) = (x : Int) := by omega
  have gl : (g : Int) ≤ 171865849703 := by omega
  have aI : (a : Int) ≤ 67108863 := by omega
  have bI : (b : Int) ≤ 67108863 := by omega
  have cI : (c : Int) ≤ 34359738368 := by omega
  have dl : (d : Int) ≤ 4096 := by omega
  have xl : (x : Int) ≤ 67112959 := by omega
  have HB := Lib.hid hb
  have HS := Lib.hid hs
  have hb4 := ((hb.set 0 (wq g)).set 1 (wq x)).set 0 (wq m)
  rw [← List.map_set, ← List.map_set, ← List.map_set] at hb4
  have e4 : ((out.set 0 g).set 1 x).set 0 m = (out.set 0 m).set 1 x := by
    rw [List.set_comm _ _ (show (1 : Nat) ≠ 0 by decide), List.set_set]
  rw [e4] at hb4
  have HB4 : Hid (Blk (((w2.setCell ⟨w.heap.size, 0, none⟩ (.int .u64 (g : Int))).setCell ⟨w.heap.size, 1, none⟩ (.int .u64 (x : Int))).setCell ⟨w.heap.size, 0, none⟩ (.int .u64 (m : Int))) w.heap.size 46 (((out.set 0 m).set 1 x).map wq)) := Lib.hid hb4
  have HS4 : Hid (Sole w2 (((w2.setCell ⟨w.heap.size, 0, none⟩ (.int .u64 (g : Int))).setCell ⟨w.heap.size, 1, none⟩ (.int .u64 (x : Int))).setCell ⟨w.heap.size, 0, none⟩ (.int .u64 (m : Int))) w.heap.size) := Lib.hid (((Sole.setCell _ _ _ _).trans (Sole.setCell _ _ _ _)).trans (Sole.setCell _ _ _ _))
  obtain ⟨R, hR⟩ : ∃ R, R = (out.set 0 m).set 1 x := ⟨_, rfl⟩
  rw [← hR] at HB4 HR
  have HLR : Hid ((R.map wq).length = 5) := by show _ = _; rw [List.length_map]; exact HR.out.1.1
  have R4 : Hid (Blk (((w2.setCell ⟨w.heap.size, 0, none⟩ (.int .u64 (g : Int))).setCell ⟨w.heap.size, 1, none⟩ (.int .u64 (x : Int))).setCell ⟨w.heap.size, 0, none⟩ (.int .u64 (m : Int))) (w.heap.size + 1) 46 (List.replicate 5 (Value.int .u64 0))) := Lib.hid (HS4.out.blk (HS.out.blk R1.out (by omega)) (by omega))
  have D4 : Hid (Below w.heap.size w (((w2.setCell ⟨w.heap.size, 0, none⟩ (.int .u64 (g : Int))).setCell ⟨w.heap.size, 1, none⟩ (.int .u64 (x : Int))).setCell ⟨w.heap.size, 0, none⟩ (.int .u64 (m : Int)))) := Lib.hid (D1.out.trans (HS.out.trans HS4.out).below)
  clear hb hs hh ha hbb al bl cl hg hd hm hx hr hb4 e4 hR HS4 HS R1 D1 A1 HC
  go_upto_region 5 with (fail)
  obtain ⟨W4, hW4⟩ := ex_w (((w2.setCell ⟨w.heap.size, 0, none⟩ (.int .u64 (g : Int))).setCell ⟨w.heap.size, 1, none⟩ (.int .u64 (x : Int))).setCell ⟨w.heap.size, 0, none⟩ (.int .u64 (m : Int)))
  rw [← hW4] at HB4 R4 D4 ⊢
  clear hW4 c0 c1 f0 f1 gI dI xI HA
  go_wp2_with (first
    | (refine wpList_load_blk rfl 46 (.tmp 1) rfl w.heap.size rfl 46 (R.map wq) _ HB4.out Try.underlying46 rfl (by rw [HLR.out]; exact HI.out) ?_)
    | (refine wpList_store_blk rfl 46 (.tmp 2) (.tmp 22) rfl (w.heap.size + 1) 46 _ R4.out (R.map wq) rfl rfl (by rw [HLR.out]; rfl) (by rw [HLR.out]; exact HI.out) (wq_one _) ?_; intro w9 hb9 hs9))
  refine bodyPost_ret (v := .agg (R.map wq).toArray) ?_ rfl ⟨R, rfl, HR.out.1, HR.out.2, D4.out.trans (hs9.below.mono (by omega))⟩
  exact results_blk (ty := 46) Try.results30 _ w9 (w.heap.size + 1) 46 (R.map wq) _ rfl hb9 Try.underlying46 rfl (by rw [HLR.out]; exact HI.out)
end Go.Proofs.Ytlcpplnajaldgaa
