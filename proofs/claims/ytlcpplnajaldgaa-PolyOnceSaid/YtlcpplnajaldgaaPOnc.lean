/- The fifth layer's law of once: its two loops, of which one adds a number to a key's second half and the other one compares two tags. Conditions: a key of 32 bytes, a number and tags of 16. -/
import Derived.Test.YtlcpplnajaldgaaPolSpec
import Derived.StillTailTactics
import Derived.IntWalk
namespace Go.Proofs.Ytlcpplnajaldgaa
open Go.RowKit

/-- A key whose second half's first i bytes are those of the sum. -/
def onceK (k : List UInt8) (M i : Nat) : List UInt8 := k.take 16 ++ (leB i (sN k + M) ++ k.drop (16 + i))
theorem onceK_length {k : List UInt8} {M i : Nat} (h : k.length = 32) (hi : i ≤ 16) : (onceK k M i).length = 32 := by
  unfold onceK
  rw [List.length_append, List.length_append, leB_length, List.length_take, List.length_drop]
  omega
theorem onceK_zero (k : List UInt8) (M : Nat) : onceK k M 0 = k := by
  unfold onceK
  show k.take 16 ++ ([] ++ k.drop 16) = k
  rw [List.nil_append, List.take_append_drop]
theorem onceK_set {k : List UInt8} {M i : Nat} (h : k.length = 32) (hi : i < 16) : (onceK k M i).set (16 + i) (UInt8.ofNat ((sN k + M) / 256 ^ i % 256)) = onceK k M (i + 1) := by
  have h1 : (k.take 16).length = 16 := by rw [List.length_take]; omega
  have h2 := leB_length i (sN k + M)
  unfold onceK
  rw [List.set_append_right _ _ (by omega), h1, List.set_append_right _ _ (by omega), h2, leB_snoc, List.drop_eq_getElem_cons (by omega : 16 + i < k.length)]
  have e : 16 + i - 16 - i = 0 := by omega
  rw [e, List.set_cons_zero]
  simp [Nat.add_assoc]
theorem onceK_take {k : List UInt8} {M : Nat} (h : k.length = 32) : (onceK k M 16).take 16 = k.take 16 := by
  have h1 : (k.take 16).length = 16 := by rw [List.length_take]; omega
  unfold onceK
  rw [List.take_append_of_le_length (by omega), List.take_of_length_le (by omega)]
theorem onceK_drop {k : List UInt8} {M : Nat} (h : k.length = 32) : (onceK k M 16).drop 16 = leB 16 (sN k + M) := by
  have h1 : (k.take 16).length = 16 := by rw [List.length_take]; omega
  unfold onceK
  rw [List.drop_append_of_le_length (by omega), List.drop_of_length_le (by omega), List.nil_append, List.drop_of_length_le (by omega : k.length ≤ 16 + 16), List.append_nil]
def OnaRel (w : World) (OB : Nat) (k : List UInt8) (M : Nat) (cv v : Value) (W : World) : Prop := ∃ i : Nat, v = .int .i64 (i : Int) ∧ i ≤ 16 ∧ cv = .int .i64 (((sN k % 256 ^ i + M % 256 ^ i) / 256 ^ i : Nat) : Int) ∧ Blk W OB 23 ((onceK k M i).map bv) ∧ Sole w W OB
noncomputable def body_ona : Code := (((Try.f7.body.map loopsOf).getD [])[0]?).getD .skip
set_option maxRecDepth 100000 in
set_option maxHeartbeats 2000000 in
theorem ona_loop (c0 c1 c2 c5 c6 c10 c11 c12 c13 c14 c15 c16 c17 c18 c19 c20 c21 c22 c23 c24 c25 c26 c27 c28 c29 c30 c31 c32 c33 c34 c35 c36 c37 c38 c39 c40 c41 c42 c43 c44 c45 c46 c47 c48 c49 c50 c51 c52 c53 c54 c55 c56 c57 c58 c59 c60 c61 c62 c63 c64 c65 c66 c67 c68 c69 c70 c71 c72 c73 c74 : Value) (KB MB OB : Nat) (T : TypeId) (k mo : List UInt8) (w : World) (hk : Hid (k.length = 32)) (hmo : Hid (mo.length = 16)) (hne1 : KB ≠ OB) (hne2 : MB ≠ OB) (hkb : Hid (Blk w KB 23 (k.map bv))) (hmb : Hid (Blk w MB T (mo.map bv))) (h0 : Hid (Blk w OB 23 (k.map bv))) {Q : Exit → Act → World → Prop}
    (HQ : Hid (∀ (u8 u9 u18 u19 u20 u21 u22 u23 u24 u25 u26 u27 u28 u29 u30 u31 u32 u33 u34 u35 u36 u37 u38 u39 u40 u41 : Value) (wx : World), Hid (Blk wx OB 23 ((onceK k (numB mo) 16).map bv)) → Hid (Sole w wx OB) → Q (.exit 0) ⟨List.toArray (c0 :: c1 :: c2 :: (.pointer (some ⟨KB, 0, none⟩)) :: (.pointer (some ⟨MB, 0, none⟩)) :: c5 :: c6 :: (.pointer (some ⟨OB, 0, none⟩)) :: u8 :: u9 :: c10 :: c11 :: c12 :: c13 :: c14 :: c15 :: c16 :: c17 :: u18 :: u19 :: u20 :: u21 :: u22 :: u23 :: u24 :: u25 :: u26 :: u27 :: u28 :: u29 :: u30 :: u31 :: u32 :: u33 :: u34 :: u35 :: u36 :: u37 :: u38 :: u39 :: u40 :: u41 :: c42 :: c43 :: c44 :: c45 :: c46 :: c47 :: c48 :: c49 :: c50 :: c51 :: c52 :: c53 :: c54 :: c55 :: c56 :: c57 :: c58 :: c59 :: c60 :: c61 :: c62 :: c63 :: c64 :: c65 :: c66 :: c67 :: c68 :: c69 :: c70 :: c71 :: c72 :: c73 :: c74 :: []), []⟩ wx)) :
    (Code.loop body_ona).wp Try.prog Q ⟨List.toArray (c0 :: c1 :: c2 :: (.pointer (some ⟨KB, 0, none⟩)) :: (.pointer (some ⟨MB, 0, none⟩)) :: c5 :: c6 :: (.pointer (some ⟨OB, 0, none⟩)) :: (.int .i64 0) :: (.int .i64 0) :: c10 :: c11 :: c12 :: c13 :: c14 :: c15 :: c16 :: c17 :: c18 :: c19 :: c20 :: c21 :: c22 :: c23 :: c24 :: c25 :: c26 :: c27 :: c28 :: c29 :: c30 :: c31 :: c32 :: c33 :: c34 :: c35 :: c36 :: c37 :: c38 :: c39 :: c40 :: c41 :: c42 :: c43 :: c44 :: c45 :: c46 :: c47 :: c48 :: c49 :: c50 :: c51 :: c52 :: c53 :: c54 :: c55 :: c56 :: c57 :: c58 :: c59 :: c60 :: c61 :: c62 :: c63 :: c64 :: c65 :: c66 :: c67 :: c68 :: c69 :: c70 :: c71 :: c72 :: c73 :: c74 :: []), []⟩ w := by
  obtain ⟨M, hM⟩ : ∃ M, M = numB mo := ⟨_, rfl⟩
  have HMM := Lib.hid hM
  rw [← hM] at HQ
  clear hM
  unfold body_ona
  conv => arg 2; arg 1; whnf
  go_loopw [8, 9] (fun cv v wx => OnaRel w OB k M cv v wx) (fun _ v _ => 16 - (intOf v).toNat)
  case atStart => exact ⟨0, rfl, by omega, congrArg (Value.int .i64) (by simp [Nat.mod_one]), by rw [onceK_zero]; exact h0.out, Sole.refl _ _⟩
  case round =>
    obtain ⟨i, rfl, hi, rfl, hblk, so⟩ := hrel
    have HB := Lib.hid hblk
    have HL := Lib.hid so
    by_cases hlt : i < 16
    · have hI : (i : Int) < 16 := by omega
      obtain ⟨c, hc⟩ : ∃ c, c = (sN k % 256 ^ i + M % 256 ^ i) / 256 ^ i := ⟨_, rfl⟩
      have cl : (c : Int) ≤ 1 := by have := carry_small (sN k) M i; omega
      have HCS := Lib.hid (carry_step (sN k) M i)
      obtain ⟨s, hs2⟩ : ∃ s, s = k[16 + i]'(by rw [hk.out]; omega) := ⟨_, rfl⟩
      obtain ⟨y, hy2⟩ : ∃ y, y = mo[i]'(by rw [hmo.out]; omega) := ⟨_, rfl⟩
      have hsd : sN k / 256 ^ i % 256 = s.toNat := by
        have h := num_digit (k.drop 16) i (by rw [List.length_drop, hk.out]; omega)
        unfold sN
        rw [h, List.getElem_drop, hs2]
      have hyd : M / 256 ^ i % 256 = y.toNat := by rw [HMM.out, num_digit mo i (by rw [hmo.out]; omega), hy2]
      have sl : (s.toNat : Int) ≤ 255 := by have := s.toNat_lt; omega
      have yl : (y.toNat : Int) ≤ 255 := by have := y.toNat_lt; omega
      have cs : wr.cell? ⟨KB, 16 + i, none⟩ = some (.int .u8 (s.toNat : Int)) := by
        rw [(so.blk hkb.out hne1).cell, List.getElem?_map, List.getElem?_eq_getElem (by rw [hk.out]; omega), ← hs2]
        rfl
      have cy : wr.cell? ⟨MB, i, none⟩ = some (.int .u8 (y.toNat : Int)) := by
        rw [(so.blk hmb.out hne2).cell, List.getElem?_map, List.getElem?_eq_getElem (by rw [hmo.out]; omega), ← hy2]
        rfl
      rw [hsd, hyd, ← hc] at HCS
      rw [← hc]
      have k1 : (16 + (i : Int)).toNat = 16 + i := by omega
      have k2 : 16 + (i : Int) < 32 := by omega
      have x1 : IntKind.i64.wrap (16 + (i : Int)) = 16 + (i : Int) := IntWalk.i64_in _ (by omega)
      have x2 : IntKind.i64.wrap (s.toNat : Int) = (s.toNat : Int) := IntWalk.i64_in _ (by clear x1; omega)
      have x3 : IntKind.i64.wrap (y.toNat : Int) = (y.toNat : Int) := IntWalk.i64_in _ (by clear x1 x2; omega)
      have x4 : IntKind.i64.wrap ((c : Int) + (s.toNat : Int)) = (c : Int) + (s.toNat : Int) := IntWalk.i64_in _ (by clear x1 x2 x3; omega)
      have x5 : IntKind.i64.wrap ((c : Int) + (s.toNat : Int) + (y.toNat : Int)) = (c : Int) + (s.toNat : Int) + (y.toNat : Int) := IntWalk.i64_in _ (by clear x1 x2 x3 x4; omega)
      clear hblk so hi hc hs2 hy2 hsd hyd
      go_wp2_with (fail)
      go_quiet (fail)
      clear x1 x2 x3 x4 x5
      obtain ⟨wa, hwa⟩ : ∃ W : World, W = wr.drewN nq := ⟨_, rfl⟩
      have HB2 : Hid (Blk wa OB 23 ((onceK k M i).map bv)) := Lib.hid (hwa ▸ HB.out)
      have HL2 : Hid (Sole w wa OB) := Lib.hid (by rw [hwa]; exact ⟨below_drewN HL.out.below nq, HL.out.size, HL.out.other⟩)
      have f0 : wa.frozen? ⟨OB, 16 + i, none⟩ = false := HB2.out.free _
      obtain ⟨u, hu⟩ : ∃ u, wa.cell? ⟨OB, 16 + i, none⟩ = some u := by
        refine ⟨((onceK k M i).map bv)[16 + i]'?_, ?_⟩
        · rw [List.length_map, onceK_length hk.out (by omega)]; omega
        · rw [HB2.out.cell]; exact List.getElem?_eq_getElem _
      have HZ := Lib.hid (onceK_set (M := M) hk.out hlt)
      rw [← hwa]
      clear hwa cs cy HB HL
      go_wp2_with (fail)
      go_roundw
      case rel =>
        have h := HB2.out.set (16 + i) (bv (UInt8.ofNat ((sN k + M) / 256 ^ i % 256)))
        rw [← List.map_set, HZ.out] at h
        have e1 : bv (UInt8.ofNat ((sN k + M) / 256 ^ i % 256)) = Value.int .u8 (((c : Int) + (s.toNat : Int) + (y.toNat : Int)) % 256) := by
          unfold bv
          rw [UInt8.toNat_ofNat', Nat.mod_mod_of_dvd _ (by decide), HCS.out.2]
          exact congrArg (Value.int .u8) (by omega)
        rw [e1] at h
        refine ⟨i + 1, by go_num, by omega, ?_, h, HL2.out.trans (Sole.setCell _ OB (16 + i) _)⟩
        rw [HCS.out.1]
        exact congrArg (Value.int .i64) (by omega)
      case measure => simp [intOf]; omega
    · obtain rfl : i = 16 := by omega
      clear hblk so
      go_wp2_with (fail)
      exact HQ.out _ _ _ _ _ _ _ _ _ _ _ _ _ _ _ _ _ _ _ _ _ _ _ _ _ _ _ HB HL
theorem leB_get : ∀ (k n i : Nat) (h : i < (leB k n).length), (leB k n)[i] = UInt8.ofNat (n / 256 ^ i % 256) := by
  intro k
  induction k with
  | zero => intro n i h; simp [leB] at h
  | succ k ih =>
    intro n i h
    cases i with
    | zero => simp [leB]
    | succ i =>
      have h2 : i < (leB k (n / 256)).length := by rw [leB_length] at h ⊢; omega
      have e := ih (n / 256) i h2
      rw [Nat.div_div_eq_div_mul, ← Nat.pow_succ'] at e
      exact e
def OnbRel (w : World) (X M : Nat) (cv v : Value) (W : World) : Prop := ∃ i m : Nat, v = .int .i64 (i : Int) ∧ i ≤ 16 ∧ cv = .int .i64 (((X % 256 ^ i + M % 256 ^ i) / 256 ^ i : Nat) : Int) ∧ W = w.drewN m
noncomputable def body_onb : Code := (((Try.f7.body.map loopsOf).getD [])[1]?).getD .skip
set_option maxRecDepth 100000 in
set_option maxHeartbeats 2000000 in
theorem onb_loop (c0 c1 c2 c3 c5 c6 c7 c9 c13 c14 c15 c16 c17 c18 c19 c20 c21 c22 c23 c24 c25 c26 c27 c28 c29 c30 c31 c32 c33 c34 c35 c36 c37 c38 c39 c40 c41 c42 c43 c44 c45 c46 c47 c48 c49 c50 c51 c52 c53 c54 c55 c56 c57 c58 c59 c60 c61 c62 c63 c64 c65 c66 c67 c68 c69 c70 c71 c72 c73 c74 : Value) (MB XB YB : Nat) (T TX TY : TypeId) (mo xs : List UInt8) (w : World) (hmo : Hid (mo.length = 16)) (hxs : Hid (xs.length = 16)) (hmb : Hid (Blk w MB T (mo.map bv))) (hxb : Hid (Blk w XB TX (xs.map bv))) (hyb : Hid (Blk w YB TY ((leB 16 (numB xs + numB mo)).map bv))) {Q : Exit → Act → World → Prop}
    (HQ : Hid (∀ (u6 u8 u12 u50 u51 u52 u53 u54 u55 u56 u57 u58 u59 u60 u61 u62 u63 u64 u65 u66 u67 u68 u69 u70 u71 u72 u73 : Value) (m : Nat), Q (.exit 2) ⟨List.toArray (c0 :: c1 :: c2 :: c3 :: (.pointer (some ⟨MB, 0, none⟩)) :: c5 :: u6 :: c7 :: u8 :: c9 :: (.pointer (some ⟨XB, 0, none⟩)) :: (.pointer (some ⟨YB, 0, none⟩)) :: u12 :: c13 :: c14 :: c15 :: c16 :: c17 :: c18 :: c19 :: c20 :: c21 :: c22 :: c23 :: c24 :: c25 :: c26 :: c27 :: c28 :: c29 :: c30 :: c31 :: c32 :: c33 :: c34 :: c35 :: c36 :: c37 :: c38 :: c39 :: c40 :: c41 :: c42 :: c43 :: c44 :: c45 :: c46 :: c47 :: c48 :: c49 :: u50 :: u51 :: u52 :: u53 :: u54 :: u55 :: u56 :: u57 :: u58 :: u59 :: u60 :: u61 :: u62 :: u63 :: u64 :: u65 :: u66 :: u67 :: u68 :: u69 :: u70 :: u71 :: u72 :: u73 :: c74 :: []), []⟩ (w.drewN m))) :
    (Code.loop body_onb).wp Try.prog Q ⟨List.toArray (c0 :: c1 :: c2 :: c3 :: (.pointer (some ⟨MB, 0, none⟩)) :: c5 :: c6 :: c7 :: (.int .i64 0) :: c9 :: (.pointer (some ⟨XB, 0, none⟩)) :: (.pointer (some ⟨YB, 0, none⟩)) :: (.int .i64 0) :: c13 :: c14 :: c15 :: c16 :: c17 :: c18 :: c19 :: c20 :: c21 :: c22 :: c23 :: c24 :: c25 :: c26 :: c27 :: c28 :: c29 :: c30 :: c31 :: c32 :: c33 :: c34 :: c35 :: c36 :: c37 :: c38 :: c39 :: c40 :: c41 :: c42 :: c43 :: c44 :: c45 :: c46 :: c47 :: c48 :: c49 :: c50 :: c51 :: c52 :: c53 :: c54 :: c55 :: c56 :: c57 :: c58 :: c59 :: c60 :: c61 :: c62 :: c63 :: c64 :: c65 :: c66 :: c67 :: c68 :: c69 :: c70 :: c71 :: c72 :: c73 :: c74 :: []), []⟩ w := by
  obtain ⟨M, hM⟩ : ∃ M, M = numB mo := ⟨_, rfl⟩
  obtain ⟨X, hX⟩ : ∃ X, X = numB xs := ⟨_, rfl⟩
  have HMM := Lib.hid hM
  have HXX := Lib.hid hX
  rw [← hM, ← hX] at hyb
  clear hM hX
  unfold body_onb
  conv => arg 2; arg 1; whnf
  go_loopw [8, 12] (fun cv v wx => OnbRel w X M cv v wx) (fun _ v _ => 16 - (intOf v).toNat)
  case atStart => exact ⟨0, 0, rfl, by omega, congrArg (Value.int .i64) (by simp [Nat.mod_one]), rfl⟩
  case round =>
    obtain ⟨i, m0, rfl, hi, rfl, rfl⟩ := hrel
    by_cases hlt : i < 16
    · have hI : (i : Int) < 16 := by omega
      obtain ⟨c, hc⟩ : ∃ c, c = (X % 256 ^ i + M % 256 ^ i) / 256 ^ i := ⟨_, rfl⟩
      have cl : (c : Int) ≤ 1 := by have := carry_small X M i; omega
      have HCS := Lib.hid (carry_step X M i)
      obtain ⟨s, hs2⟩ : ∃ s, s = xs[i]'(by rw [hxs.out]; omega) := ⟨_, rfl⟩
      obtain ⟨y, hy2⟩ : ∃ y, y = mo[i]'(by rw [hmo.out]; omega) := ⟨_, rfl⟩
      have hsd : X / 256 ^ i % 256 = s.toNat := by rw [HXX.out, num_digit xs i (by rw [hxs.out]; omega), hs2]
      have hyd : M / 256 ^ i % 256 = y.toNat := by rw [HMM.out, num_digit mo i (by rw [hmo.out]; omega), hy2]
      have sl : (s.toNat : Int) ≤ 255 := by have := s.toNat_lt; omega
      have yl : (y.toNat : Int) ≤ 255 := by have := y.toNat_lt; omega
      obtain ⟨wa, hwa⟩ : ∃ W : World, W = w.drewN m0 := ⟨_, rfl⟩
      have cs : wa.cell? ⟨XB, i, none⟩ = some (.int .u8 (s.toNat : Int)) := by
        rw [hwa, (hxb.out.drewN m0).cell, List.getElem?_map, List.getElem?_eq_getElem (by rw [hxs.out]; omega), ← hs2]
        rfl
      have cy : wa.cell? ⟨MB, i, none⟩ = some (.int .u8 (y.toNat : Int)) := by
        rw [hwa, (hmb.out.drewN m0).cell, List.getElem?_map, List.getElem?_eq_getElem (by rw [hmo.out]; omega), ← hy2]
        rfl
      rw [hsd, hyd, ← hc] at HCS
      rw [← hc]
      have cz : ∀ n, (wa.drewN n).cell? ⟨YB, i, none⟩ = some (.int .u8 (((c : Int) + (s.toNat : Int) + (y.toNat : Int)) % 256)) := fun n => by
        rw [hwa, ((hyb.out.drewN m0).drewN n).cell, List.getElem?_map, List.getElem?_eq_getElem (by rw [leB_length]; exact hlt), leB_get]
        show some (bv _) = _
        unfold bv
        rw [UInt8.toNat_ofNat', Nat.mod_mod_of_dvd _ (by decide), HCS.out.2]
        exact congrArg some (congrArg (Value.int .u8) (by omega))
      have x2 : IntKind.i64.wrap (s.toNat : Int) = (s.toNat : Int) := IntWalk.i64_in _ (by omega)
      have x3 : IntKind.i64.wrap (y.toNat : Int) = (y.toNat : Int) := IntWalk.i64_in _ (by clear x2; omega)
      have x4 : IntKind.i64.wrap ((c : Int) + (s.toNat : Int)) = (c : Int) + (s.toNat : Int) := IntWalk.i64_in _ (by clear x2 x3; omega)
      have x5 : IntKind.i64.wrap ((c : Int) + (s.toNat : Int) + (y.toNat : Int)) = (c : Int) + (s.toNat : Int) + (y.toNat : Int) := IntWalk.i64_in _ (by clear x2 x3 x4; omega)
      rw [← hwa]
      have HWA := Lib.hid hwa
      have HCZ := Lib.hid cz
      clear hi hc hs2 hy2 hsd hyd hwa cz
      go_wp2_with (fail)
      go_quiet (fail)
      clear x2 x3 x4 x5 cs cy
      have cz := HCZ.out nq
      obtain ⟨wb, hwb⟩ : ∃ W : World, W = wa.drewN nq := ⟨_, rfl⟩
      rw [← hwb] at cz
      rw [← hwb]
      have HWB := Lib.hid hwb
      clear hwb
      go_wp2_with (fail)
      go_roundw
      case rel =>
        refine ⟨i + 1, m0 + nq, by go_num, by omega, ?_, by rw [HWB.out, HWA.out]; rw [World.drewN_drewN]⟩
        rw [HCS.out.1]
        exact congrArg (Value.int .i64) (by omega)
      case measure => simp [intOf]; omega
    · obtain rfl : i = 16 := by omega
      go_wp2_with (fail)
      exact HQ.out _ _ _ _ _ _ _ _ _ _ _ _ _ _ _ _ _ _ _ _ _ _ _ _ _ _ _ m0
end Go.Proofs.Ytlcpplnajaldgaa
