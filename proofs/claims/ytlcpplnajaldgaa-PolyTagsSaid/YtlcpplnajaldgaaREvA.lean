/- The fifth reference's even: its loops. Conditions: at most 20 digits, none of them above 2^47. -/
import Derived.Test.YtlcpplnajaldgaaPolMath
import Derived.Test.YtlcpplnajaldgaaW64
import Derived.StillTailTactics
import Derived.IntWalk
namespace Go.Proofs.Ytlcpplnajaldgaa
open Go.RowKit

theorem fold_mod {a b x i : Nat} (h : a % p130 = b % p130) (hi : 10 ≤ i) : (a + 5 * x * 8192 ^ (i - 10)) % p130 = (b + 8192 ^ i * x) % p130 := by
  have e : (8192 : Nat) ^ i = 8192 ^ (i - 10) * (p130 + 5) := by rw [← p130_eq, ← Nat.pow_add]; congr 1; omega
  obtain ⟨y, hy⟩ : ∃ y, y = (8192 : Nat) ^ (i - 10) := ⟨_, rfl⟩
  rw [e, ← hy]
  have e2 : b + y * (p130 + 5) * x = (b + 5 * x * y) + p130 * (y * x) := by
    rw [Nat.mul_add, Nat.add_mul, Nat.mul_comm y p130, Nat.mul_assoc p130, Nat.mul_comm y 5, Nat.mul_assoc 5, Nat.mul_comm y x, Nat.mul_assoc 5]
    omega
  rw [e2, Nat.add_mul_mod_self_left, Nat.add_mod, h, ← Nat.add_mod]
theorem dv_take_succ (l : List Nat) {i : Nat} (h : i < l.length) : dv (l.take (i + 1)) = dv (l.take i) + 8192 ^ i * l.getD i 0 := by
  rw [List.take_succ_eq_append_getElem h, dv_append, List.length_take, Nat.min_eq_left (by omega), List.getD, List.getElem?_eq_getElem h]
  simp [dv]
theorem getD_set_self {l : List Nat} {p x : Nat} (h : p < l.length) : (l.set p x).getD p 0 = x := by rw [List.getD, List.getElem?_set_self h]; rfl
theorem getD_set_ne {l : List Nat} {p q x : Nat} (h : p ≠ q) : (l.set p x).getD q 0 = l.getD q 0 := by rw [List.getD, List.getD, List.getElem?_set_ne h]
/-- How great a digit may be behind i of the fold's rounds. -/
def fldB (q i : Nat) : Nat := (if q < i then 140737488355328 else 0) + (if q + 10 < i then 703687441776640 else 0)
def FldP (ds out : List Nat) (i : Nat) : Prop := out.length = 10 ∧ dv out % p130 = dv (ds.take i) % p130 ∧ ∀ q, q < 10 → out.getD q 0 ≤ fldB q i
def FldRel (w : World) (B : Nat) (ds : List Nat) (v : Value) (W : World) : Prop := ∃ (i : Nat) (out : List Nat), v = .int .i64 (i : Int) ∧ i ≤ ds.length ∧ FldP ds out i ∧ Blk W B 42 (out.map wq) ∧ Sole w W B
theorem fld_low {ds out : List Nat} {i x : Nat} (h : FldP ds out i) (hi : i < ds.length) (h10 : i < 10) (hx : x = ds.getD i 0) (hxl : x ≤ 140737488355328) : FldP ds (out.set i (out.getD i 0 + x)) (i + 1) := by
  obtain ⟨h1, h2, h3⟩ := h
  refine ⟨by rw [List.length_set]; exact h1, ?_, fun q hq => ?_⟩
  · rw [dv_set _ _ _ (by omega), dv_take_succ _ hi, ← hx, Nat.add_mod, h2, ← Nat.add_mod, Nat.mul_comm x]
  · by_cases e : i = q
    · subst e
      rw [getD_set_self (by omega)]
      have := h3 i h10
      unfold fldB at this ⊢
      split at this <;> split at this <;> split <;> split <;> omega
    · rw [getD_set_ne e]
      have := h3 q hq
      unfold fldB at this ⊢
      split at this <;> split at this <;> split <;> split <;> omega
theorem fld_high {ds out : List Nat} {i x : Nat} (h : FldP ds out i) (hi : i < ds.length) (h10 : 10 ≤ i) (h20 : i < 20) (hx : x = ds.getD i 0) (hxl : x ≤ 140737488355328) : FldP ds (out.set (i - 10) (out.getD (i - 10) 0 + 5 * x)) (i + 1) := by
  obtain ⟨h1, h2, h3⟩ := h
  refine ⟨by rw [List.length_set]; exact h1, ?_, fun q hq => ?_⟩
  · rw [dv_set _ _ _ (by omega), dv_take_succ _ hi, ← hx]
    exact fold_mod h2 h10
  · by_cases e : i - 10 = q
    · subst e
      rw [getD_set_self (by omega)]
      have := h3 (i - 10) (by omega)
      unfold fldB at this ⊢
      split at this <;> split at this <;> split <;> split <;> omega
    · rw [getD_set_ne e]
      have := h3 q hq
      unfold fldB at this ⊢
      split at this <;> split at this <;> split <;> split <;> omega
noncomputable def body_fld : Code := (((Try.f19.body.map loopsOf).getD [])[0]?).getD .skip
set_option maxRecDepth 100000 in
set_option maxHeartbeats 2000000 in
theorem fld_loop (c1 c2 c5 c6 c7 c8 c9 c10 c11 c12 c13 c14 c15 c16 c17 c18 c19 c20 c21 c22 c23 c24 c25 c26 c27 c28 c29 c30 c31 c32 c33 c34 c35 c36 c37 c38 c39 c40 c41 c42 c43 c44 c45 c46 c47 c48 c49 c50 c51 c52 c53 c54 c55 c56 c57 c58 c59 c60 c61 c62 c63 c64 c65 c66 c67 c68 c69 c70 c71 c72 c73 c74 c75 c76 c77 c78 c79 c80 c81 c82 c83 c84 c85 c86 c87 c88 c89 c90 c91 c92 : Value) (D B n cd : Nat) (ds : List Nat) (w : World) (hn : ds.length = n) (h20 : n ≤ 20) (hm : Hid (∀ x ∈ ds, x ≤ 140737488355328)) (hne : D ≠ B) (hd : Hid (∀ i, i < n → w.cell? ⟨D, i, none⟩ = some (.int .u64 ((ds.getD i 0 : Nat) : Int)))) (h0 : Hid (Blk w B 42 ((List.replicate 10 0).map wq))) {Q : Exit → Act → World → Prop}
    (HQ : Hid (∀ (u4 u10 u11 u12 u13 u14 u15 u16 u17 u18 u19 u20 u21 u22 u23 u24 u25 u26 u27 u28 u29 u30 u31 u32 u33 u34 u35 u36 u37 u38 u39 u40 u41 u42 u43 u44 : Value) (out : List Nat) (wx : World), Hid (FldP ds out n) → Hid (Blk wx B 42 (out.map wq)) → Hid (Sole w wx B) → Q (.exit 0) ⟨List.toArray ((.slice (some ⟨D, 0, none⟩) n cd) :: c1 :: c2 :: (.slice (some ⟨B, 0, none⟩) 10 10) :: u4 :: c5 :: c6 :: c7 :: c8 :: c9 :: u10 :: u11 :: u12 :: u13 :: u14 :: u15 :: u16 :: u17 :: u18 :: u19 :: u20 :: u21 :: u22 :: u23 :: u24 :: u25 :: u26 :: u27 :: u28 :: u29 :: u30 :: u31 :: u32 :: u33 :: u34 :: u35 :: u36 :: u37 :: u38 :: u39 :: u40 :: u41 :: u42 :: u43 :: u44 :: c45 :: c46 :: c47 :: c48 :: c49 :: c50 :: c51 :: c52 :: c53 :: c54 :: c55 :: c56 :: c57 :: c58 :: c59 :: c60 :: c61 :: c62 :: c63 :: c64 :: c65 :: c66 :: c67 :: c68 :: c69 :: c70 :: c71 :: c72 :: c73 :: c74 :: c75 :: c76 :: c77 :: c78 :: c79 :: c80 :: c81 :: c82 :: c83 :: c84 :: c85 :: c86 :: c87 :: c88 :: c89 :: c90 :: c91 :: c92 :: []), []⟩ wx)) :
    (Code.loop body_fld).wp Try.prog Q ⟨List.toArray ((.slice (some ⟨D, 0, none⟩) n cd) :: c1 :: c2 :: (.slice (some ⟨B, 0, none⟩) 10 10) :: (.int .i64 0) :: c5 :: c6 :: c7 :: c8 :: c9 :: c10 :: c11 :: c12 :: c13 :: c14 :: c15 :: c16 :: c17 :: c18 :: c19 :: c20 :: c21 :: c22 :: c23 :: c24 :: c25 :: c26 :: c27 :: c28 :: c29 :: c30 :: c31 :: c32 :: c33 :: c34 :: c35 :: c36 :: c37 :: c38 :: c39 :: c40 :: c41 :: c42 :: c43 :: c44 :: c45 :: c46 :: c47 :: c48 :: c49 :: c50 :: c51 :: c52 :: c53 :: c54 :: c55 :: c56 :: c57 :: c58 :: c59 :: c60 :: c61 :: c62 :: c63 :: c64 :: c65 :: c66 :: c67 :: c68 :: c69 :: c70 :: c71 :: c72 :: c73 :: c74 :: c75 :: c76 :: c77 :: c78 :: c79 :: c80 :: c81 :: c82 :: c83 :: c84 :: c85 :: c86 :: c87 :: c88 :: c89 :: c90 :: c91 :: c92 :: []), []⟩ w := by
  subst hn
  have lI : (ds.length : Int) ≤ 20 := by omega
  unfold body_fld
  conv => arg 2; arg 1; whnf
  go_loopw [4] (fun v wx => FldRel w B ds v wx) (fun v _ => ds.length - (intOf v).toNat)
  case atStart => exact ⟨0, List.replicate 10 0, rfl, by omega, ⟨by simp, by rw [dv_zeros]; rfl, fun q _ => by rw [List.getD, List.getElem?_replicate]; split <;> simp⟩, h0.out, Sole.refl _ _⟩
  case round =>
    obtain ⟨i, out, rfl, hi, hp, hblk, so⟩ := hrel
    by_cases hlt : i < ds.length
    · have hI : (i : Int) < ds.length := by omega
      obtain ⟨x, hx⟩ : ∃ x, x = ds.getD i 0 := ⟨_, rfl⟩
      have xl : x ≤ 140737488355328 := by
        rw [hx, List.getD, List.getElem?_eq_getElem hlt]
        exact hm.out _ (List.getElem_mem hlt)
      have cx := (so.cell (p := ⟨D, i, none⟩) hne).trans (hd.out i hlt)
      rw [← hx] at cx
      have HB := Lib.hid hblk
      have HL := Lib.hid so
      have HP := Lib.hid hp
      by_cases h10 : i < 10
      · have h10I : (i : Int) < 10 := by omega
        obtain ⟨e, he⟩ : ∃ e, e = out.getD i 0 := ⟨_, rfl⟩
        have el : e ≤ 844424930131968 := by
          have := hp.2.2 i h10
          rw [← he] at this
          unfold fldB at this
          split at this <;> split at this <;> omega
        have ce := rq_cell hblk (i := i) (by rw [hp.1]; exact h10)
        rw [← he] at ce
        have f0 : wr.frozen? ⟨B, i, none⟩ = false := hblk.free _
        have HN := Lib.hid (fld_low hp hlt h10 hx xl)
        rw [← he] at HN
        have a1 : IntKind.u64.wrap ((e : Int) + (x : Int)) = (e : Int) + (x : Int) := IntWalk.u64_in _ (by omega)
        clear hx he hp hblk so hi xl el
        go_wp2_with (fail)
        go_still_tail 12, (by kernel_rfl)
        change wpList _ _ _ _ _ wr.drew
        go_wp2_with (fail)
        go_roundw
        case rel =>
          have h := HB.out.set i (wq (e + x))
          rw [← List.map_set] at h
          have e7 : Value.int .u64 ((e : Int) + (x : Int)) = wq (e + x) := congrArg (Value.int .u64) (by omega)
          rw [e7]
          exact ⟨i + 1, _, by go_num, by omega, HN.out, h.drew, HL.out.trans ⟨(Sole.setCell wr B i (wq (e + x))).below.drew, (Sole.setCell wr B i (wq (e + x))).size, (Sole.setCell wr B i (wq (e + x))).other⟩⟩
        case measure => simp [intOf]; omega
      · have h10I : ¬ (i : Int) < 10 := by omega
        obtain ⟨j, hj⟩ : ∃ j, j = i - 10 := ⟨_, rfl⟩
        have j10 : j < 10 := by omega
        have jI : (j : Int) < 10 := by omega
        obtain ⟨e, he⟩ : ∃ e, e = out.getD j 0 := ⟨_, rfl⟩
        have el : e ≤ 844424930131968 := by
          have := hp.2.2 j j10
          rw [← he] at this
          unfold fldB at this
          split at this <;> split at this <;> omega
        have ce := rq_cell hblk (i := j) (by rw [hp.1]; exact j10)
        rw [← he] at ce
        have f0 : wr.frozen? ⟨B, j, none⟩ = false := hblk.free _
        have HN := Lib.hid (fld_high hp hlt (by omega) (by omega) hx xl)
        rw [← hj, ← he] at HN
        have a0 : IntKind.i64.wrap ((i : Int) - 10) = (j : Int) := by
          have e1 : (i : Int) - 10 = (j : Int) := by omega
          rw [e1]
          exact IntWalk.i64_in _ (by omega)
        have a00 : IntKind.i64.wrap (j : Int) = (j : Int) := IntWalk.i64_in _ (by clear a0; omega)
        have a0' : (i : Int) - 10 = (j : Int) := by clear a0 a00; omega
        have a1 : IntKind.u64.wrap (5 * (x : Int)) = 5 * (x : Int) := IntWalk.u64_in _ (by clear a0 a00 a0'; omega)
        have a2 : IntKind.u64.wrap ((e : Int) + 5 * (x : Int)) = (e : Int) + 5 * (x : Int) := IntWalk.u64_in _ (by clear a0 a00 a0' a1; omega)
        clear hx he hp hblk so hi xl el hj j10
        go_wp2_with (fail)
        go_still_tail 15, (by kernel_rfl)
        change wpList _ _ _ _ _ wr.drew
        go_wp2_with (fail)
        clear a0 a00 a0' a1 a2
        go_roundw
        case rel =>
          have h := HB.out.set j (wq (e + 5 * x))
          rw [← List.map_set] at h
          have e7 : Value.int .u64 ((e : Int) + 5 * (x : Int)) = wq (e + 5 * x) := congrArg (Value.int .u64) (by omega)
          rw [e7]
          exact ⟨i + 1, _, by go_num, by omega, HN.out, h.drew, HL.out.trans ⟨(Sole.setCell wr B j (wq (e + 5 * x))).below.drew, (Sole.setCell wr B j (wq (e + 5 * x))).size, (Sole.setCell wr B j (wq (e + 5 * x))).other⟩⟩
        case measure => simp [intOf]; omega
    · obtain rfl : i = ds.length := by omega
      have HB := Lib.hid hblk
      have HL := Lib.hid so
      have HP := Lib.hid hp
      clear hblk so hp
      go_wp2_with (fail)
      exact HQ.out _ _ _ _ _ _ _ _ _ _ _ _ _ _ _ _ _ _ _ _ _ _ _ _ _ _ _ _ _ _ _ _ _ _ _ _ out _ HP HB HL
end Go.Proofs.Ytlcpplnajaldgaa
