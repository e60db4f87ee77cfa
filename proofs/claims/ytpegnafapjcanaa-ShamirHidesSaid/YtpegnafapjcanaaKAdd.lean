/- The developers' add: to each share is added what its place has of a secret. Conditions: shares of 33 bytes in a row of the caller's own, at most 1000; t and the draws at most 1000. -/
import Derived.Test.YtpegnafapjcanaaKPoly
import Derived.Test.YtpegnafapjcanaaKComb
import Derived.Test.YtpegnafapjcanaaSrowB
import Derived.Test.YtpegnafapjcanaaQTail
namespace Go.Proofs.Ytpegnafapjcanaa
open Go.RowKit

/-- Shares, of which the first i bytes have what is added, and the byte i of the first s of them. -/
def addS (sec : List UInt8) (t : Nat) (draws sh : List UInt8) (i : Nat) (b : Bool) : List UInt8 := shX sh :: (List.range 32).map fun k => if k < i ∨ (k = i ∧ b = true) then shY sh k ^^^ ge (polL sec t draws k) (shX sh) else shY sh k
def addM (sec : List UInt8) (t : Nat) (draws : List UInt8) (L : List (List UInt8)) (i s : Nat) : List (List UInt8) := (List.range L.length).map fun q => addS sec t draws (L.getD q []) i (decide (q < s))
def addAll (sec : List UInt8) (t : Nat) (draws : List UInt8) (L : List (List UInt8)) : List (List UInt8) := L.map fun sh => addY sh (shareB sec (shX sh) t draws)
theorem addS_length (sec : List UInt8) (t : Nat) (draws sh : List UInt8) (i : Nat) (b : Bool) : (addS sec t draws sh i b).length = 33 := by simp [addS]
theorem addM_length (sec : List UInt8) (t : Nat) (draws : List UInt8) (L : List (List UInt8)) (i s : Nat) : (addM sec t draws L i s).length = L.length := by simp [addM]
theorem addM_get (sec : List UInt8) (t : Nat) (draws : List UInt8) {L : List (List UInt8)} (i s : Nat) {q : Nat} (hq : q < L.length) : (addM sec t draws L i s).getD q [] = addS sec t draws (L.getD q []) i (decide (q < s)) := range_getD _ _ hq
theorem addM_set (sec : List UInt8) (t : Nat) (draws : List UInt8) {L : List (List UInt8)} {i s : Nat} (hs : s < L.length) : (addM sec t draws L i s).set s (((addM sec t draws L i s).getD s []).set (i + 1) (shY (L.getD s []) i ^^^ ge (polL sec t draws i) (shX (L.getD s [])))) = addM sec t draws L i (s + 1) := by
  rw [addM_get sec t draws i s hs]
  have e1 : (addS sec t draws (L.getD s []) i (decide (s < s))).set (i + 1) (shY (L.getD s []) i ^^^ ge (polL sec t draws i) (shX (L.getD s []))) = addS sec t draws (L.getD s []) i (decide (s < s + 1)) := by
    unfold addS
    rw [List.set_cons_succ]
    congr 1
    have h := range_set (fun k => if k < i ∨ (k = i ∧ decide (s < s) = true) then shY (L.getD s []) k ^^^ ge (polL sec t draws k) (shX (L.getD s [])) else shY (L.getD s []) k) (fun k => if k < i ∨ (k = i ∧ decide (s < s + 1) = true) then shY (L.getD s []) k ^^^ ge (polL sec t draws k) (shX (L.getD s [])) else shY (L.getD s []) k) 32 i (fun k _ hk => by
      have e : (k < i ∨ (k = i ∧ decide (s < s) = true)) = (k < i ∨ (k = i ∧ decide (s < s + 1) = true)) := by apply propext; simp [hk]
      simp only [e])
    have e2 : (if i < i ∨ (i = i ∧ decide (s < s + 1) = true) then shY (L.getD s []) i ^^^ ge (polL sec t draws i) (shX (L.getD s [])) else shY (L.getD s []) i) = shY (L.getD s []) i ^^^ ge (polL sec t draws i) (shX (L.getD s [])) := if_pos (.inr ⟨rfl, by simp⟩)
    rw [← e2]
    exact h
  rw [e1]
  exact range_set (fun q => addS sec t draws (L.getD q []) i (decide (q < s))) (fun q => addS sec t draws (L.getD q []) i (decide (q < s + 1))) L.length s (fun q _ hq => by
    have e : (decide (q < s)) = (decide (q < s + 1)) := by
      have e0 : (q < s) = (q < s + 1) := by apply propext; omega
      simp only [e0]
    simp only [e])
theorem addM_next (sec : List UInt8) (t : Nat) (draws : List UInt8) (L : List (List UInt8)) (i : Nat) : addM sec t draws L i L.length = addM sec t draws L (i + 1) 0 := by
  unfold addM
  refine List.map_congr_left fun q hq => ?_
  unfold addS
  congr 1
  refine List.map_congr_left fun k _ => ?_
  have hq := List.mem_range.1 hq
  have e : (k < i ∨ (k = i ∧ decide (q < L.length) = true)) = (k < i + 1 ∨ (k = i + 1 ∧ decide (q < 0) = true)) := by apply propext; simp [hq]; omega
  simp only [e]
theorem share_eta {sh : List UInt8} (h : sh.length = 33) : sh = shX sh :: (List.range 32).map fun k => shY sh k := by
  apply List.ext_getElem
  · simp [h]
  · intro k h1 h2
    cases k with
    | zero =>
      show sh[0] = sh.getD 0 0
      rw [List.getD, List.getElem?_eq_getElem h1]
      rfl
    | succ k =>
      rw [List.getElem_cons_succ, List.getElem_map, List.getElem_range]
      show _ = sh.getD (k + 1) 0
      rw [List.getD, List.getElem?_eq_getElem h1]
      rfl
theorem getD_range {α : Type} (L : List α) (d : α) : (List.range L.length).map (fun q => L.getD q d) = L := by
  apply List.ext_getElem
  · simp
  · intro k h1 h2
    rw [List.getElem_map, List.getElem_range, List.getD, List.getElem?_eq_getElem h2]
    rfl
theorem addM_none (sec : List UInt8) (t : Nat) (draws : List UInt8) {L : List (List UInt8)} (h : ∀ l ∈ L, l.length = 33) : addM sec t draws L 0 0 = L := by
  have e : addM sec t draws L 0 0 = (List.range L.length).map fun q => L.getD q [] := by
    unfold addM
    refine List.map_congr_left fun q hq => ?_
    have h1 := share_eta (len_get h (List.mem_range.1 hq))
    have h2 : addS sec t draws (L.getD q []) 0 (decide (q < 0)) = shX (L.getD q []) :: (List.range 32).map fun k => shY (L.getD q []) k := by
      unfold addS
      refine congrArg (shX (L.getD q []) :: ·) (List.map_congr_left fun k _ => ?_)
      rw [if_neg (by simp)]
    rw [h2]
    exact h1.symm
  rw [e, getD_range]
theorem addM_all (sec : List UInt8) (t : Nat) (draws : List UInt8) (L : List (List UInt8)) : addM sec t draws L 32 0 = addAll sec t draws L := by
  have e : addM sec t draws L 32 0 = (List.range L.length).map fun q => addY (L.getD q []) (shareB sec (shX (L.getD q [])) t draws) := by
    unfold addM
    refine List.map_congr_left fun q _ => ?_
    unfold addS addY
    congr 1
    refine List.map_congr_left fun k hk => ?_
    have hk := List.mem_range.1 hk
    rw [if_pos (.inl hk), shareB_Y sec _ t draws hk, bx_comm]
  have e2 : (List.range L.length).map (fun q => addY (L.getD q []) (shareB sec (shX (L.getD q [])) t draws)) = ((List.range L.length).map (fun q => L.getD q [])).map fun sh => addY sh (shareB sec (shX sh) t draws) := by
    rw [List.map_map]
    rfl
  rw [e, e2, getD_range]
  rfl
def rows (M : List (List UInt8)) : List (List Value) := M.map fun l => l.map bv
theorem rows_len (M : List (List UInt8)) : (rows M).length = M.length := by simp [rows]
theorem rows_at (M : List (List UInt8)) {q : Nat} (hq : q < M.length) : (rows M).getD q [] = (M.getD q []).map bv := by
  unfold rows
  rw [List.getD, List.getElem?_map, List.getD, List.getElem?_eq_getElem hq]
  rfl
theorem rows_put (M : List (List UInt8)) {q : Nat} (hq : q < M.length) (j : Nat) (x : UInt8) : (rows M).set q (((rows M).getD q []).set j (bv x)) = rows (M.set q ((M.getD q []).set j x)) := by
  have e : ((M.getD q []).map bv).set j (bv x) = ((M.getD q []).set j x).map bv := by rw [List.map_set]
  obtain ⟨l, hl⟩ : ∃ l, l = (M.getD q []).set j x := ⟨_, rfl⟩
  rw [rows_at M hq, e, ← hl]
  unfold rows
  rw [List.map_set]
/-- What the row's own slice names. -/
def FB (v : Value) : Nat → Prop := fun k => v.ownBlock = some k
theorem chg_rd0 {F : Nat → Prop} {w w' : World} {v : Value} {xs : List UInt8} (h : Chg F w w') (hr : Rd w v xs) (hF : 0 < xs.length → ∀ k, v.ownBlock = some k → ¬ F k) : Rd w' v xs := by
  rcases hr with h1 | ⟨b, off, c, rfl, h2, h3, h4, h5⟩
  · exact .inl h1
  · exact .inr ⟨b, off, c, rfl, Nat.lt_of_lt_of_le h2 h.size, h3, h4, fun i hi => (h.cell (p := ⟨b, off + i, none⟩) h2 (hF (by omega) b rfl)).trans (h5 i hi)⟩
def AdsRel (sec : List UInt8) (t : Nat) (draws : List UInt8) (L : List (List UInt8)) (i base : Nat) (v : Value) (w : World) (sv : Value) (W : World) : Prop := ∃ s : Nat, sv = .int .i64 (s : Int) ∧ s ≤ L.length ∧ OwnR 33 W base 31 v (rows (addM sec t draws L i s)) ∧ Chg (FB v) w W
noncomputable def body_ads : Code := (((Try.f19.body.map loopsOf).getD [])[1]?).getD .skip
set_option maxRecDepth 100000 in
set_option maxHeartbeats 2000000 in
theorem ads_loop (c2 c3 c4 c5 c6 c7 c8 c9 c11 c13 c14 c15 c16 c17 c18 c19 c20 c21 c22 c23 c24 c27 c28 c29 c30 c31 c32 c33 c34 c35 c36 c37 c38 c39 c40 c41 c42 c43 c44 c45 c46 c47 c48 c49 : Value) (sec : List UInt8) (t : Nat) (draws : List UInt8) (L : List (List UInt8)) (i base c TB : Nat) (A : Option Addr) (cv : Value) (cl : List UInt8) (w : World) (hi : i < 32) (hn : L.length ≤ 1000) (hT : Hid (Tab w TB)) (hTF : Hid (¬ FB (.slice A L.length c) TB))
    (hcv : Hid (Rd w cv cl)) (hcf : Hid (∀ k, cv.ownBlock = some k → ¬ FB (.slice A L.length c) k)) (hcl : Hid (cl.length ≤ 1000)) (hcg : Hid (∀ x, geval cl x = geval (polL sec t draws i) x)) (h0 : Hid (OwnR 33 w base 31 (.slice A L.length c) (rows (addM sec t draws L i 0)))) {Q : Exit → Act → World → Prop}
    (HQ : Hid (∀ (u13 u26 u27 u28 u29 u30 u31 u32 u33 u34 u35 u36 u37 u38 u39 u40 u41 u42 u43 u44 u45 u46 u47 u48 : Value) (wx : World), Hid (OwnR 33 wx base 31 (.slice A L.length c) (rows (addM sec t draws L (i + 1) 0))) → Hid (Chg (FB (.slice A L.length c)) w wx) → Q (.exit 2) ⟨List.toArray ((.pointer (some ⟨TB, 0, none⟩)) :: (.slice A L.length c) :: c2 :: c3 :: c4 :: c5 :: c6 :: c7 :: c8 :: c9 :: (.int .i64 (i : Int)) :: c11 :: cv :: u13 :: c14 :: c15 :: c16 :: c17 :: c18 :: c19 :: c20 :: c21 :: c22 :: c23 :: c24 :: (.int .i64 (L.length : Int)) :: u26 :: u27 :: u28 :: u29 :: u30 :: u31 :: u32 :: u33 :: u34 :: u35 :: u36 :: u37 :: u38 :: u39 :: u40 :: u41 :: u42 :: u43 :: u44 :: u45 :: u46 :: u47 :: u48 :: c49 :: []), []⟩ wx)) :
    (Code.loop body_ads).wp Try.prog Q ⟨List.toArray ((.pointer (some ⟨TB, 0, none⟩)) :: (.slice A L.length c) :: c2 :: c3 :: c4 :: c5 :: c6 :: c7 :: c8 :: c9 :: (.int .i64 (i : Int)) :: c11 :: cv :: c13 :: c14 :: c15 :: c16 :: c17 :: c18 :: c19 :: c20 :: c21 :: c22 :: c23 :: c24 :: (.int .i64 (L.length : Int)) :: (.int .i64 0) :: c27 :: c28 :: c29 :: c30 :: c31 :: c32 :: c33 :: c34 :: c35 :: c36 :: c37 :: c38 :: c39 :: c40 :: c41 :: c42 :: c43 :: c44 :: c45 :: c46 :: c47 :: c48 :: c49 :: []), []⟩ w := by
  have iI : (i : Int) < 32 := by omega
  have nI : (L.length : Int) ≤ 1000 := by omega
  have HI := Lib.hid hi
  clear hi hn
  unfold body_ads
  conv => arg 2; arg 1; whnf
  go_loopw [26] (fun v wx => AdsRel sec t draws L i base (.slice A L.length c) w v wx) (fun v _ => L.length - (intOf v).toNat)
  case atStart => exact ⟨0, rfl, by omega, h0.out, Chg.refl _ _⟩
  case round =>
    obtain ⟨s, rfl, hs, hown, hch⟩ := hrel
    have HOW := Lib.hid hown
    have HCH := Lib.hid hch
    clear hown hch
    by_cases hlt : s < L.length
    · have hI : (s : Int) < L.length := by omega
      obtain ⟨A', c', he, _, _, hA⟩ := HOW.out.form
      simp only [Value.slice.injEq] at he
      obtain ⟨he, -, -⟩ := he
      subst he
      obtain ⟨g, rfl, hg1, hg2⟩ := hA (by rw [rows_len, addM_length]; omega)
      have HLS : Hid (s < (rows (addM sec t draws L i s)).length) := Lib.hid (by rw [rows_len, addM_length]; exact hlt)
      have HLM : Hid (s < (addM sec t draws L i s).length) := Lib.hid (by rw [addM_length]; exact hlt)
      obtain ⟨x, hx⟩ : ∃ x, x = shX (L.getD s []) := ⟨_, rfl⟩
      obtain ⟨y, hy⟩ : ∃ y, y = shY (L.getD s []) i := ⟨_, rfl⟩
      obtain ⟨z, hz⟩ : ∃ z, z = ge (polL sec t draws i) x := ⟨_, rfl⟩
      have c1 : ∀ m, (wr.drewN m).cell? ⟨g, s * 33, none⟩ = some (.int .u8 (x.toNat : Int)) := fun m => by
        have h := HOW.out.cell s 0 HLS.out (by decide)
        rw [rows_at _ HLM.out, addM_get sec t draws i s hlt] at h
        rw [hx]
        exact h
      have c2 : ∀ m, (wr.drewN m).cell? ⟨g, s * 33 + 1 + i, none⟩ = some (.int .u8 (y.toNat : Int)) := fun m => by
        have h := HOW.out.cell s (1 + i) HLS.out (by have := HI.out; omega)
        rw [rows_at _ HLM.out, addM_get sec t draws i s hlt, List.getElem?_map] at h
        have h2 : (addS sec t draws (L.getD s []) i (decide (s < s)))[1 + i]? = some y := by
          rw [Nat.add_comm 1 i]
          unfold addS
          rw [List.getElem?_cons_succ, List.getElem?_map, List.getElem?_range HI.out, hy]
          refine congrArg some ?_
          show (if i < i ∨ (i = i ∧ decide (s < s) = true) then _ else _) = _
          rw [if_neg (by simp)]
        rw [h2] at h
        rw [Nat.add_assoc]
        exact h
      have f1 : ∀ m, (wr.drewN m).frozen? ⟨g, s * 33 + 1 + i, none⟩ = false := fun m => HOW.out.free _
      have HT : Hid (Tab wr TB) := Lib.hid (HCH.out.blk hT.out hTF.out)
      have HCV : Hid (Rd wr cv cl) := Lib.hid (HCH.out.rd hcv.out hcf.out)
      have M1 : Hid (∀ n, Calls Try.prog 27 #[.pointer (some ⟨TB, 0, none⟩), cv, .int .u8 (x.toNat : Int)] (wr.drewN n) fun e w' => e = .returned (.int .u8 (z.toNat : Int)) ∧ ∃ m, w' = (wr.drewN n).drewN m) := Lib.hid fun n => by
        have h := evalc TB cv cl x.toNat (wr.drewN n) (HT.out.drewN n) (HCV.out.drewN n) hcl.out x.toNat_lt
        rw [hcg.out, geval_ge, ← hz] at h
        exact h
      have hxr := bx_u8 y z
      have HNX : Hid (∀ m, OwnR 33 ((wr.drewN m).setCell ⟨g, s * 33 + 1 + i, none⟩ (.int .u8 ((y ^^^ z).toNat : Int))) base 31 (.slice (some ⟨g, 0, none⟩) L.length c) (rows (addM sec t draws L i (s + 1)))) := Lib.hid fun m => by
        have h0 : OwnR 33 (wr.drewN m) base 31 (.slice (some ⟨g, 0, none⟩) L.length c) (rows (addM sec t draws L i s)) := ((Chg.refl (fun _ => False) wr).drewN _ m).ownR HOW.out (fun _ _ h => h)
        have h := h0.stored s (i + 1) (bv (y ^^^ z)) HLS.out (by have := HI.out; omega)
        rw [rows_put _ HLM.out, hz, hx, hy, addM_set sec t draws hlt] at h
        rw [Nat.add_assoc, Nat.add_comm 1 i, hz, hx, hy]
        exact h
      have HCX : Hid (∀ m, Chg (FB (.slice (some ⟨g, 0, none⟩) L.length c)) w ((wr.drewN m).setCell ⟨g, s * 33 + 1 + i, none⟩ (.int .u8 ((y ^^^ z).toNat : Int)))) := Lib.hid fun m => chg_more (HCH.out.drewN _ m) (Chg.setCell _ _ _ _ _ rfl)
      have HLT := Lib.hid hlt
      clear hx hy hz hlt hs hA hg1 hg2
      go_wp2_with (fail)
      refine wp_quiet_tail 19 (by kernel_rfl) (by kernel_rfl) (by kernel_rfl) (by kernel_rfl) (by kernel_rfl) (by kernel_rfl) (by kernel_rfl) (by kernel_rfl) ?_
      simp only [List.take_succ_cons, List.take_zero, List.drop_succ_cons, List.drop_zero]
      repeat (go_big_quiet_step ((go_at_call 27; exact Calls.quiet_of (M1.out _))))
      refine wpQuiet_nil ?_
      intro wq hwq
      obtain ⟨nq, rfl⟩ := hwq
      go_wp2_with (fail)
      have hlt := HLT.out
      refine ⟨⟨s + 1, by go_num, by omega, HNX.out nq, HCX.out nq⟩, by simp [intOf]; omega⟩
    · obtain rfl : s = L.length := by omega
      rw [addM_next] at HOW
      go_wp2_with (fail)
      exact HQ.out _ _ _ _ _ _ _ _ _ _ _ _ _ _ _ _ _ _ _ _ _ _ _ _ _ HOW HCH
end Go.Proofs.Ytpegnafapjcanaa
