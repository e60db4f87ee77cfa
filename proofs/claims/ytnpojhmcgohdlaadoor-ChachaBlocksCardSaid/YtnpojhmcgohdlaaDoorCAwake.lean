/- The document's example of layer 4. Condition: the table of the places as it is laid. -/
import Derived.Test.YtnpojhmcgohdlaaDoorCMain
namespace Go.Proofs.YtnpojhmcgohdlaaDoor
open Go.RowKit

def iotaB (m : Nat) : List UInt8 := (List.range m).map UInt8.ofNat ++ List.replicate (32 - m) 0
theorem iotaB_set {m : Nat} (h : m < 32) : (iotaB m).set m (UInt8.ofNat m) = iotaB (m + 1) := by
  unfold iotaB
  have hl : ((List.range m).map UInt8.ofNat).length = m := by simp
  rw [List.set_append_right _ _ (by omega), hl, Nat.sub_self, show 32 - m = (32 - (m + 1)) + 1 by omega, List.replicate_succ, List.set_cons_zero, List.range_succ, List.map_append, List.append_assoc]
  rfl
theorem iotaB_length {m : Nat} (h : m ≤ 32) : (iotaB m).length = 32 := by unfold iotaB; simp; omega
theorem iota_full : iotaB 32 = [0, 1, 2, 3, 4, 5, 6, 7, 8, 9, 10, 11, 12, 13, 14, 15, 16, 17, 18, 19, 20, 21, 22, 23, 24, 25, 26, 27, 28, 29, 30, 31] := by decide
def AwkRel (B : Nat) (T : TypeId) (w : World) (v : Value) (W : World) : Prop :=
  ∃ i : Nat, v = .int .i64 (i : Int) ∧ i ≤ 32 ∧ Blk W B T ((iotaB i).map bv) ∧ Sole w W B
noncomputable def body_awk : Code := (((Tryd.f10.body.map loopsOf).getD [])[0]?).getD .skip
set_option maxRecDepth 100000 in
set_option maxHeartbeats 1000000 in
theorem awk_loop (c0 c3 c4 c5 c6 c7 c8 c9 c10 c11 c12 c13 c14 c15 c16 c17 c18 c19 c20 c21 c22 c23 c24 c25 c26 c27 c28 c29 c30 c31 c32 c33 c34 c35 c36 c37 : Value) (B : Nat) (T : TypeId) (w : World) (h0 : Hid (Blk w B T ((iotaB 0).map bv))) {Q : Exit → Act → World → Prop}
    (HQ : Hid (∀ (u2 u4 u5 u6 u7 u8 u9 u10 u11 : Value) (wx : World), Hid (Blk wx B T ((iotaB 32).map bv)) → Hid (Sole w wx B) → Q (.exit 0) ⟨List.toArray (c0 :: (.pointer (some ⟨B, 0, none⟩)) :: u2 :: c3 :: u4 :: u5 :: u6 :: u7 :: u8 :: u9 :: u10 :: u11 :: c12 :: c13 :: c14 :: c15 :: c16 :: c17 :: c18 :: c19 :: c20 :: c21 :: c22 :: c23 :: c24 :: c25 :: c26 :: c27 :: c28 :: c29 :: c30 :: c31 :: c32 :: c33 :: c34 :: c35 :: c36 :: c37 :: []), []⟩ wx)) :
    (Code.loop body_awk).wp Tryd.prog Q ⟨List.toArray (c0 :: (.pointer (some ⟨B, 0, none⟩)) :: (.int .i64 0) :: c3 :: c4 :: c5 :: c6 :: c7 :: c8 :: c9 :: c10 :: c11 :: c12 :: c13 :: c14 :: c15 :: c16 :: c17 :: c18 :: c19 :: c20 :: c21 :: c22 :: c23 :: c24 :: c25 :: c26 :: c27 :: c28 :: c29 :: c30 :: c31 :: c32 :: c33 :: c34 :: c35 :: c36 :: c37 :: []), []⟩ w := by
  unfold body_awk
  conv => arg 2; arg 1; whnf
  go_loopw [2] (fun v wx => AwkRel B T w v wx) (fun v _ => 32 - (intOf v).toNat)
  case atStart => exact ⟨0, rfl, by omega, h0.out, Sole.refl _ _⟩
  case round =>
    obtain ⟨i, rfl, hi, hblk, so⟩ := hrel
    by_cases hlt : i < 32
    · have hI : (i : Int) < 32 := by omega
      have f0 : wr.frozen? ⟨B, i, none⟩ = false := hblk.free _
      obtain ⟨u, hu⟩ : ∃ u, wr.cell? ⟨B, i, none⟩ = some u := by
        refine ⟨((iotaB i).map bv)[i]'?_, ?_⟩
        · rw [List.length_map, iotaB_length (by omega)]; exact hlt
        · rw [hblk.cell]; exact List.getElem?_eq_getElem _
      have HE := Lib.hid (iotaB_set hlt)
      have HB := Lib.hid hblk
      have HL := Lib.hid so
      clear hblk so hi
      go_wp2_with (fail)
      go_roundw
      case rel =>
        have h := HB.out.set i (bv (UInt8.ofNat i))
        rw [← List.map_set, HE.out] at h
        have e : bv (UInt8.ofNat i) = Value.int .u8 (i : Int) := congrArg (Value.int .u8) (by rw [UInt8.toNat_ofNat']; omega)
        rw [e] at h
        exact ⟨i + 1, by go_num, by omega, h, HL.out.trans (Sole.setCell _ B _ _)⟩
      case measure => simp [intOf]; omega
    · obtain rfl : i = 32 := by omega
      have HB := Lib.hid hblk
      have HL := Lib.hid so
      clear hblk so
      go_wp2_with (fail)
      exact HQ.out _ _ _ _ _ _ _ _ _ _ HB HL
set_option maxRecDepth 100000 in
set_option maxHeartbeats 1000000 in
theorem chaAwake_any (w : World) (hq : Qs w) :
    Calls Tryd.prog 10 #[] w fun e w' => e = .returned (.bool true) ∧ Below w.heap.size w w' := by
  have HI32 : Hid ((Tryd.prog.info? 23).map (·.size) = some 32) := by show _ = _; kernel_rfl
  have HI64 : Hid ((Tryd.prog.info? 27).map (·.size) = some 64) := by show _ = _; kernel_rfl
  have HQ := Lib.hid hq
  have D0 : Hid (Below w.heap.size w (w.alloc (.cells (List.replicate 32 (Value.int .u8 0)).toArray 23))) := Lib.hid ((Below.refl _ _).alloc (Nat.le_refl _) _)
  have B0 : Hid (Blk (w.alloc (.cells (List.replicate 32 (Value.int .u8 0)).toArray 23)) w.heap.size 23 ((iotaB 0).map bv)) := Lib.hid (Blk.made w _ _)
  clear hq
  go_enter Tryd.func10, Tryd.ntmps10
  go_wp2_with (fail)
  refine awk_loop _ _ _ _ _ _ _ _ _ _ _ _ _ _ _ _ _ _ _ _ _ _ _ _ _ _ _ _ _ _ _ _ _ _ _ _ w.heap.size 23 _ B0 (Lib.hid ?_)
  intro u2 u4 u5 u6 u7 u8 u9 u10 u11 w1 hb1 hs1
  have D1 : Hid (Below w.heap.size w w1) := Lib.hid (D0.out.trans hs1.out.below)
  have HL : Hid (((iotaB 32).map bv).length = 32) := by show _ = _; rw [List.length_map, iotaB_length (by omega)]
  go_wp2_with (refine wpList_load_blk rfl 23 (.tmp 1) rfl w.heap.size rfl 23 ((iotaB 32).map bv) _ hb1.out Tryd.underlying23 rfl (by rw [HL.out]; exact HI32.out) ?_)
  refine (cmain_any (iotaB 32) [0, 0, 0, 9, 0, 0, 0, 74, 0, 0, 0, 0] 1 _ (iotaB_length (by omega)) rfl (by omega) (HQ.out.below D1.out)).mono ?_
  rintro e w2 ⟨rfl, hb2⟩
  obtain ⟨res, hres⟩ := ex_eq1 (chaBlock (iotaB 32) 1 [0, 0, 0, 9, 0, 0, 0, 74, 0, 0, 0, 0])
  rw [← hres]
  have LR : Hid ((res.map bv).length = 64) := by show _ = _; rw [List.length_map, hres, chaBlock_length]
  rw [iota_full, cha_awake] at hres
  have HE := Lib.hid hres
  have HB2 := Lib.hid (Blk.made w2 27 (List.replicate 64 (Value.int .u8 0)))
  have D2 : Hid (Below w.heap.size w w2) := Lib.hid (D1.out.trans (hb2.mono D1.out.size))
  unfold arrV
  clear hb2 hres hb1 hs1
  go_wp2_with (refine wpList_store_blk rfl 27 _ _ rfl w2.heap.size 27 _ HB2.out (res.map bv) rfl rfl (by rw [LR.out]; rfl) (by rw [LR.out]; exact HI64.out) (bv_one _) ?_
               intro w3 hb3 hs3
               rw [HE.out] at hb3
               have c0 : w3.cell? ⟨w2.heap.size, 0, none⟩ = some (.int .u8 16) := by rw [hb3.cell]; rfl
               have c1 : w3.cell? ⟨w2.heap.size, 1, none⟩ = some (.int .u8 241) := by rw [hb3.cell]; rfl
               have c2 : w3.cell? ⟨w2.heap.size, 2, none⟩ = some (.int .u8 231) := by rw [hb3.cell]; rfl
               have c3 : w3.cell? ⟨w2.heap.size, 3, none⟩ = some (.int .u8 228) := by rw [hb3.cell]; rfl
               have c63 : w3.cell? ⟨w2.heap.size, 63, none⟩ = some (.int .u8 78) := by rw [hb3.cell]; rfl
               have D3 : Hid (Below w.heap.size w w3) := Lib.hid ((D2.out.alloc D2.out.size (.cells (List.replicate 64 (Value.int .u8 0)).toArray 27)).trans (hs3.below.mono D2.out.size))
               clear hb3 hs3)
  go_ret
  exact ⟨rfl, D3.out⟩
end Go.Proofs.YtnpojhmcgohdlaaDoor
