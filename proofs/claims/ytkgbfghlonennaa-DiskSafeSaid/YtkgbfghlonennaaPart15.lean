/- Part 15 of the words that the laws share: DRefL, DCon. No condition of its own: each theorem says its own. -/
import Derived.Test.YtkgbfghlonennaaPart14
import Derived.Test.YtkgbfghlonennaaPart12

/- The ninth reference's Boot: what the power's return makes of the first sectors; contract. Conditions: the disk is as a disk is; at most 300 fates. -/
namespace Go.Proofs.Ytkgbfghlonennaa
open Go.RowKit

def cntO : List Pl → Nat
  | [] => 0
  | p :: r => (if p.opn then 1 else 0) + cntO r
theorem cntO_append : ∀ (A B : List Pl), cntO (A ++ B) = cntO A + cntO B
  | [], B => by simp [cntO]
  | p :: A, B => by rw [List.cons_append, cntO, cntO, cntO_append A B, Nat.add_assoc]
theorem cntO_le : ∀ A : List Pl, cntO A ≤ A.length
  | [] => Nat.zero_le _
  | p :: A => by
    have := cntO_le A
    rw [cntO, List.length_cons]
    split <;> omega
theorem bootL_append (fs : List UInt8) : ∀ (A : List Pl) (j : Nat) (B : List Pl), bootL fs j (A ++ B) = bootL fs j A ++ bootL fs (j + cntO A) B
  | [], j, B => by simp [bootL, cntO]
  | p :: A, j, B => by
    rw [List.cons_append, bootL, bootL, cntO]
    split
    · rw [bootL_append fs A (j + 1) B, List.cons_append, Nat.add_assoc]
    · rw [bootL_append fs A j B, List.cons_append, Nat.zero_add]
theorem bootL_length (fs : List UInt8) : ∀ (j : Nat) (L : List Pl), (bootL fs j L).length = L.length
  | _, [] => rfl
  | j, p :: L => by
    rw [bootL]
    split
    · rw [List.length_cons, List.length_cons, bootL_length fs (j + 1) L]
    · rw [List.length_cons, List.length_cons, bootL_length fs j L]
/-- The first i as the power's return leaves them. -/
def bootAt (fs : List UInt8) (i : Nat) (L : List Pl) : List Pl := bootL fs 0 (L.take i) ++ L.drop i
def bootE (fs : List UInt8) (i : Nat) (L : List Pl) (p : Pl) : Pl := if p.opn then bootP p (fate fs (cntO (L.take i))) else p
theorem bootAt_zero (fs : List UInt8) (L : List Pl) : bootAt fs 0 L = L := by simp [bootAt, bootL]
theorem bootAt_all (fs : List UInt8) (L : List Pl) : bootAt fs L.length L = bootL fs 0 L := by simp [bootAt]
theorem bootAt_length (fs : List UInt8) (i : Nat) (L : List Pl) : (bootAt fs i L).length = L.length := by
  rw [bootAt, List.length_append, bootL_length, List.length_take, List.length_drop]
  omega
theorem bootAt_head {fs : List UInt8} {i : Nat} {L : List Pl} (hi : i < L.length) : (bootL fs 0 (L.take i)).length = i := by
  rw [bootL_length, List.length_take]
  omega
theorem bootAt_at {fs : List UInt8} {i : Nat} {L : List Pl} (hi : i < L.length) : (bootAt fs i L)[i]'(by rw [bootAt_length]; exact hi) = L[i] := by
  have h1 := bootAt_head (fs := fs) hi
  unfold bootAt
  rw [List.getElem_append_right (by omega), List.getElem_drop]
  congr 1
  omega
theorem cntO_step {i : Nat} {L : List Pl} (hi : i < L.length) : cntO (L.take (i + 1)) = cntO (L.take i) + if L[i].opn then 1 else 0 := by
  rw [List.take_add_one, List.getElem?_eq_getElem hi, cntO_append]
  simp [cntO]
theorem bootAt_step {fs : List UInt8} {i : Nat} {L : List Pl} (hi : i < L.length) : bootAt fs (i + 1) L = (bootAt fs i L).set i (bootE fs i L L[i]) := by
  have h1 := bootAt_head (fs := fs) hi
  unfold bootAt
  rw [List.set_append_right _ _ (by omega), h1, Nat.sub_self, List.drop_eq_getElem_cons hi, List.set_cons_zero, List.take_add_one, List.getElem?_eq_getElem hi]
  show bootL fs 0 (L.take i ++ [L[i]]) ++ _ = _
  rw [bootL_append, List.append_assoc, Nat.zero_add]
  congr 1
  unfold bootE
  rw [bootL]
  split <;> simp [bootL]
theorem RefIs.drewN {w : World} {X : Nat} {S : DS} {F : Nat → Prop} {v : Value} {Q : List PV} (h : RefIs w X S F v Q) (n : Nat) : RefIs (w.drewN n) X S F v Q := h.other (Chg.drewN (fun _ => False) (Chg.refl _ _) n) fun _ _ h => h
/-- A cell of a known sector is stored. -/
theorem RefIs.put1 {w : World} {X : Nat} {S : DS} {F : Nat → Prop} {Q : List PV} {g m c : Nat} (h : RefIs w X S F (.slice (some ⟨g, 0, none⟩) m c) Q) {i j : Nat} {qa : PV} (ha : ∃ h : i < Q.length, Q[i] = qa) (hj : j < 6) (u : Value) (qb : PV) (hq : qa.cells.set j u = qb.cells)
    (hok : PvOk w F X (.slice (some ⟨g, 0, none⟩) m c) qb) (hp : qb.p.plc = qa.p.plc) (hn : qb.p.now.length = 128) (hw : qb.p.was.length = 128) :
    RefIs (w.setCell ⟨g, i * 6 + j, none⟩ u) X { S with L := S.L.set i qb.p } F (.slice (some ⟨g, 0, none⟩) m c) (Q.set i qb) ∧ ∃ h : i < (Q.set i qb).length, (Q.set i qb)[i] = qb := by
  obtain ⟨hi, hq1⟩ := ha
  exact ⟨h.put hi hj u qb (by rw [hq1]; exact hq) hok (by rw [hq1]; exact hp) hn hw rfl rfl rfl rfl, by rw [List.length_set]; exact hi, List.getElem_set_self _⟩
theorem RefIs.cell1 {w : World} {X : Nat} {S : DS} {F : Nat → Prop} {Q : List PV} {g m c : Nat} (h : RefIs w X S F (.slice (some ⟨g, 0, none⟩) m c) Q) {i j : Nat} {qa : PV} (ha : ∃ h : i < Q.length, Q[i] = qa) (hj : j < 6) : w.cell? ⟨g, i * 6 + j, none⟩ = qa.cells[j]? := by
  obtain ⟨hi, hq1⟩ := ha
  rw [h.cell hi hj, hq1]
theorem RefIs.ok1 {w : World} {X : Nat} {S : DS} {F : Nat → Prop} {v : Value} {Q : List PV} (h : RefIs w X S F v Q) {i : Nat} {qa : PV} (ha : ∃ h : i < Q.length, Q[i] = qa) : PvOk w F X v qa := by
  obtain ⟨hi, hq1⟩ := ha
  rw [← hq1]
  exact h.ok _ (List.getElem_mem hi)
def BootRel (fs : List UInt8) (w : World) (X : Nat) (S : DS) (F : Nat → Prop) (u : Value) (a v : Value) (W : World) : Prop :=
  ∃ (i : Nat) (Q : List PV), a = .int .i64 (cntO (S.L.take i) : Int) ∧ v = .int .i64 (i : Int) ∧ i ≤ S.L.length ∧ RefIs W X { S with L := bootAt fs i S.L } F u Q ∧ Chg (Wrt X u) w W
theorem bootE_skip {fs : List UInt8} {i : Nat} {L : List Pl} (hi : i < L.length) (h : L[i].opn = false) : bootAt fs (i + 1) L = bootAt fs i L := by
  rw [bootAt_step hi]
  have e : bootE fs i L L[i] = (bootAt fs i L)[i]'(by rw [bootAt_length]; exact hi) := by
    rw [bootAt_at hi]
    unfold bootE
    rw [h]
    rfl
  rw [e, List.set_getElem_self]
set_option maxRecDepth 100000 in
set_option maxHeartbeats 2000000 in
theorem refBoot_any {w : World} {X : Nat} {S : DS} {F : Nat → Prop} {v : Value} {Q : List PV} (h : RefIs w X S F v Q) {u : Value} {fs : List UInt8} (hr : Rd w u fs) (hn : fs.length ≤ 1000) (hb : 0 < fs.length → ∀ j, u.ownBlock = some j → j < w.heap.size ∧ ¬ F j) :
    Calls Try.prog 26 #[.pointer (some ⟨X, 0, none⟩), u] w fun e w' => e = .returned (.tuple #[]) ∧ Left w w' X v (bootS S fs) F := by
  have HR := Lib.hid h
  have HRb := Lib.hid hr
  have HB := Lib.hid hb
  have fI : (fs.length : Int) ≤ 1000 := by omega
  obtain ⟨Ab, cb, rfl, _, _, _⟩ := hr.form
  have n1 : (S.L.length : Int) ≤ 1024 := by have := h.good.length; omega
  clear h hr hb hn
  go_enter Try.func26, Try.ntmps26
  go_wp2_with (fail)
  go_loopw [4, 5] (fun a v2 wx => BootRel fs w X S F v a v2 wx) (fun _ v2 _ => S.L.length - (intOf v2).toNat)
  case atStart => exact ⟨0, Q, rfl, rfl, Nat.zero_le _, by rw [bootAt_zero]; exact HR.out, Chg.refl _ _⟩
  case round =>
    obtain ⟨i, Qi, rfl, rfl, hi, hRi, hCi⟩ := hrel
    have HRi := Lib.hid hRi
    have HCi := Lib.hid hCi
    have QL : Qi.length = S.L.length := by rw [hRi.len]; exact bootAt_length fs i S.L
    obtain ⟨A, c, rfl, _, _, hA⟩ := hRi.form
    have cv : wr.cell? ⟨X, 0, none⟩ = some (.slice A Qi.length c) := by rw [hRi.blk.cell]; rfl
    have c1 : wr.cell? ⟨X, 1, none⟩ = some (.int .i64 (S.fuse : Int)) := by rw [hRi.blk.cell]; rfl
    have f1 := hRi.blk.free 1
    have HX := Lib.hid hRi.blk
    rw [QL] at cv hA
    clear hRi hCi
    by_cases hlt : i < S.L.length
    · have hI : (i : Int) < S.L.length := by omega
      obtain ⟨g, rfl, hg⟩ := hA (by omega)
      have hiQ : i < Qi.length := by rw [QL]; exact hlt
      have hqp : Qi[i].p = S.L[i] := by
        have h1 := HRi.out.at hiQ
        rw [← h1]
        exact bootAt_at hlt
      obtain ⟨q, hq⟩ : ∃ q, q = Qi[i] := ⟨_, rfl⟩
      rw [← hq] at hqp
      have HQ : Hid (∃ h : i < Qi.length, Qi[i] = q) := Lib.hid ⟨hiQ, hq.symm⟩
      have HQP : Hid (∃ h : i < S.L.length, q.p = S.L[i]) := Lib.hid ⟨hlt, hqp⟩
      have HLT := Lib.hid hlt
      have HQL := Lib.hid QL
      have HOK : Hid (PvOk wr F X (.slice (some ⟨g, 0, none⟩) Qi.length c) q) := Lib.hid (by rw [hq]; exact HRi.out.ok _ (List.getElem_mem hiQ))
      have CL : ∀ j, j < 6 → wr.cell? ⟨g, i * 6 + j, none⟩ = q.cells[j]? := fun j hj => by rw [HRi.out.cell hiQ hj, hq]
      have c5 : wr.cell? ⟨g, i * 6 + 5, none⟩ = some (.bool q.p.opn) := by rw [CL 5 (by decide)]; rfl
      have f5 : wr.frozen? ⟨g, i * 6 + 5, none⟩ = false := HRi.out.row.free _
      have HCL := Lib.hid CL
      obtain ⟨j, hj⟩ : ∃ j, j = cntO (S.L.take i) := ⟨_, rfl⟩
      have HJ := Lib.hid hj
      have jI : (j : Int) ≤ 1024 := by
        have := cntO_le (S.L.take i)
        rw [List.length_take] at this
        omega
      rw [← hj]
      have HL2 : Hid (∀ W, Chg (fun k => k = g) wr W → W.cell? ⟨X, 0, none⟩ = some (.slice (some ⟨g, 0, none⟩) S.L.length c)) := Lib.hid fun W hW => by
        rw [hW.cell (p := ⟨X, 0, none⟩) HX.out.lt (fun e => (HRi.out.fv g rfl).2 e.symm)]
        exact cv
      clear hqp hj CL hq hiQ QL hlt hi f1 c1
      by_cases ho : q.p.opn = true
      · rw [ho] at c5
        have HO := Lib.hid ho
        clear ho
        obtain ⟨φ, hφ⟩ : ∃ φ, φ = fate fs j := ⟨_, rfl⟩
        have φ3 : φ < 3 := by
          rw [hφ]
          unfold fate
          split
          · decide
          · exact Nat.mod_lt _ (by decide)
        have HF := Lib.hid hφ
        by_cases h0 : fs = []
        case' pos =>
          have l0 : fs.length = 0 := by rw [h0]; rfl
          have HZ0 : Hid (φ = 0) := Lib.hid (by
            rw [hφ]
            unfold fate
            rw [if_pos h0])
          clear h0 hφ
          go_upto_region 8 with (fail)
          rw [show Value.int .u8 0 = Value.int .u8 (φ : Int) by rw [HZ0.out]; rfl]
          clear l0 HZ0
        case' neg =>
          have l0 : 0 < fs.length := List.length_pos_iff.2 h0
          have hjl : j % fs.length < fs.length := Nat.mod_lt _ l0
          have hfm : ∃ b off, Ab = some ⟨b, off, none⟩ ∧ wr.cell? ⟨b, off + j % fs.length, none⟩ = some (.int .u8 ((fs[j % fs.length]'hjl).toNat : Int)) := by
            rcases HRb.out with ⟨_, _, _, _, _, h4⟩ | ⟨b, off, _, e1, h2, _, _, h5⟩
            · exact absurd h4 h0
            · injection e1 with e1 _ _
              refine ⟨b, off, e1, ?_⟩
              rw [HCi.out.cell (p := ⟨b, off + j % fs.length, none⟩) h2 (fun hF => (HB.out l0 b (by rw [e1]; rfl)).2 (HRi.out.own hF))]
              exact h5 _ hjl
          obtain ⟨b, off, rfl, cb1⟩ := hfm
          obtain ⟨x, hx⟩ : ∃ x, x = fs[j % fs.length]'hjl := ⟨_, rfl⟩
          rw [← hx] at cb1
          have e3 : Int.tmod (x.toNat : Int) 3 = (φ : Int) := by
            rw [hφ]
            unfold fate
            rw [if_neg h0, hx, List.getD, List.getElem?_eq_getElem hjl]
            rfl
          obtain ⟨jm, hjm⟩ : ∃ jm, jm = j % fs.length := ⟨_, rfl⟩
          have e1 : Int.tmod (j : Int) (fs.length : Int) = (jm : Int) := by rw [hjm]; rfl
          have jmI : (jm : Int) < fs.length := by rw [hjm]; omega
          rw [← hjm] at cb1
          clear hx hjm h0 hjl hφ
          go_upto_region 8 with (fail)
          clear e1 e3 jmI cb1
        all_goals
          obtain ⟨W1, hW1⟩ : ∃ W : World, W = wr.setCell ⟨g, i * 6 + 5, none⟩ (.bool false) := ⟨_, rfl⟩
          obtain ⟨q1, hq1⟩ : ∃ q1 : PV, q1 = { q with p := { q.p with opn := false } } := ⟨_, rfl⟩
          have HQ1 := Lib.hid hq1
          have HFUL : Hid (q.p.now.length = 128 ∧ q.p.was.length = 128) := Lib.hid (by
            obtain ⟨h1, h2⟩ := HQP.out
            rw [h2]
            exact HR.out.good.full _ (List.getElem_mem h1))
          obtain ⟨S0, hS0⟩ : ∃ S0 : DS, S0 = { S with L := bootAt fs i S.L } := ⟨_, rfl⟩
          rw [← hS0] at HRi
          obtain ⟨S1, hS1⟩ : ∃ S1 : DS, S1 = { S0 with L := S0.L.set i q1.p } := ⟨_, rfl⟩
          have HR1' : Hid (RefIs W1 X S1 F (.slice (some ⟨g, 0, none⟩) Qi.length c) (Qi.set i q1) ∧ ∃ h : i < (Qi.set i q1).length, (Qi.set i q1)[i] = q1) := Lib.hid (by
            rw [hW1, hS1]
            exact HRi.out.put1 HQ.out (by decide) (.bool false) q1 (by rw [hq1]; rfl) (by rw [hq1]; exact ⟨HOK.out.now, HOK.out.was, HOK.out.fn, HOK.out.fw⟩) (by rw [hq1]) (by rw [hq1]; exact HFUL.out.1) (by rw [hq1]; exact HFUL.out.2))
          obtain ⟨Q1, hQ1⟩ : ∃ Q1, Q1 = Qi.set i q1 := ⟨_, rfl⟩
          have HR1 : Hid (RefIs W1 X S1 F (.slice (some ⟨g, 0, none⟩) Qi.length c) Q1) := Lib.hid (by rw [hQ1]; exact HR1'.out.1)
          have HQ1a : Hid (∃ h : i < Q1.length, Q1[i] = q1) := Lib.hid (by
            obtain ⟨h1, h2⟩ := HR1'.out.2
            subst hQ1
            exact ⟨h1, h2⟩)
          clear HR1' hQ1
          have C1 : Hid (Chg (fun k => k = g) wr W1) := Lib.hid (by rw [hW1]; exact Chg.setCell _ wr g _ _ rfl)
          have cx1 : ∀ m, (W1.drewN m).cell? ⟨X, 0, none⟩ = some (.slice (some ⟨g, 0, none⟩) S.L.length c) := fun m => HL2.out _ (Chg.drewN _ C1.out m)
          have cx0 : W1.cell? ⟨X, 0, none⟩ = some (.slice (some ⟨g, 0, none⟩) S.L.length c) := HL2.out _ C1.out
          have HS0 : Hid (S0.L = bootAt fs i S.L ∧ S0 = { S with L := bootAt fs i S.L }) := Lib.hid ⟨by rw [hS0], hS0⟩
          have HS1 := Lib.hid hS1
          have HEND : Hid (bootAt fs (i + 1) S.L = S0.L.set i (bootP q.p φ) ∧ cntO (S.L.take (i + 1)) = j + 1) := Lib.hid (by
            obtain ⟨h1, h2⟩ := HQP.out
            refine ⟨?_, ?_⟩
            · rw [bootAt_step h1, HS0.out.1]
              congr 1
              unfold bootE
              rw [← h2, if_pos HO.out, ← HJ.out, ← HF.out]
            · rw [cntO_step h1, ← h2, if_pos HO.out, ← HJ.out])
          have FG : Hid (Wrt X (.slice (some ⟨g, 0, none⟩) S.L.length c) g) := Lib.hid (.inr rfl)
          clear hq1 hS0 hS1
          have hcase : φ = 1 ∨ φ = 0 ∨ φ = 2 := by omega
          clear φ3
          rcases hcase with rfl | rfl | rfl
          · go_upto_region 10 with (fail)
            rw [← hW1]
            clear hW1 f5 c5 cv
            go_wp2_with (fail)
            have hlt := HLT.out
            refine ⟨⟨i + 1, Q1, by rw [HEND.out.2]; go_num, by go_num, by omega, ?_, HCi.out.trans (C1.out.mono fun k hk => .inl (by rw [hk]; exact FG.out))⟩, by simp [intOf]; omega⟩
            have h1 := HR1.out
            rw [HS1.out, HQ1.out, HS0.out.2] at h1
            rw [HEND.out.1, HS0.out.1]
            exact h1
          · obtain ⟨Aw, lw, cw, hvw⟩ : ∃ Aw lw cw, q.vw = .slice Aw lw cw := by
              obtain ⟨A, c, e, _⟩ := HOK.out.was.form
              exact ⟨A, _, c, e⟩
            obtain ⟨vn, hvn⟩ : ∃ vn, vn = q.vn := ⟨_, rfl⟩
            obtain ⟨old, hold⟩ : ∃ b, b = q.p.old := ⟨_, rfl⟩
            obtain ⟨torn, htorn⟩ : ∃ b, b = q.p.torn := ⟨_, rfl⟩
            have ca1 : ∀ m, (W1.drewN m).cell? ⟨g, i * 6 + 1, none⟩ = some vn := fun m => by
              rw [(HR1.out.drewN m).cell1 HQ1a.out (by decide), HQ1.out, hvn]; rfl
            have ca2 : ∀ m, (W1.drewN m).cell? ⟨g, i * 6 + 2, none⟩ = some (.slice Aw lw cw) := fun m => by
              rw [(HR1.out.drewN m).cell1 HQ1a.out (by decide), HQ1.out, ← hvw]; rfl
            have fa1 : ∀ m, (W1.drewN m).frozen? ⟨g, i * 6 + 1, none⟩ = false := fun m => (HR1.out.drewN m).row.free _
            obtain ⟨q2, hq2⟩ : ∃ q2 : PV, q2 = { q1 with p := { q1.p with now := q1.p.was }, vn := .slice Aw lw cw } := ⟨_, rfl⟩
            obtain ⟨q3, hq3⟩ : ∃ q3 : PV, q3 = { q2 with p := { q2.p with torn := q2.p.old } } := ⟨_, rfl⟩
            have HQ2 := Lib.hid hq2
            have HQ3 := Lib.hid hq3
            have HVW := Lib.hid hvw
            have HOLD := Lib.hid hold
            have HTORN := Lib.hid htorn
            clear hq2 hq3 hvw hvn hold htorn
            go_upto_region 11 with (fail)
            rw [← hW1]
            clear hW1 f5 c5 cv
            refine wp_quiet_tail 15 (by kernel_rfl) (by kernel_rfl) (by kernel_rfl) (by kernel_rfl) (by kernel_rfl) (by kernel_rfl) (by kernel_rfl) (by kernel_rfl) ?_
            simp only [List.take_succ_cons, List.take_zero, List.drop_succ_cons, List.drop_zero]
            repeat (go_big_quiet_step (fail))
            refine wpQuiet_nil ?_
            intro wq hwq
            obtain ⟨nq, rfl⟩ := hwq
            obtain ⟨W2, hW2⟩ : ∃ W : World, W = (W1.drewN nq).setCell ⟨g, i * 6 + 1, none⟩ (.slice Aw lw cw) := ⟨_, rfl⟩
            have HR2' : Hid (RefIs W2 X { S1 with L := S1.L.set i q2.p } F (.slice (some ⟨g, 0, none⟩) Qi.length c) (Q1.set i q2) ∧ ∃ h : i < (Q1.set i q2).length, (Q1.set i q2)[i] = q2) := Lib.hid (by
              have hk := (HR1.out.drewN nq).ok1 HQ1a.out
              rw [hW2]
              refine (HR1.out.drewN nq).put1 HQ1a.out (by decide) _ q2 (by rw [HQ2.out]; rfl) ?_ (by rw [HQ2.out]) (by rw [HQ2.out, HQ1.out]; exact HFUL.out.2) (by rw [HQ2.out, HQ1.out]; exact HFUL.out.2)
              rw [HQ2.out, ← HVW.out]
              have e1 : q1.vw = q.vw := by rw [HQ1.out]
              rw [← e1]
              exact ⟨hk.was, hk.was, hk.fw, hk.fw⟩)
            have C2 : Hid (Chg (fun k => k = g) wr W2) := Lib.hid ((Chg.drewN _ C1.out nq).trans (by rw [hW2]; exact Chg.setCell _ _ g _ _ (.inl rfl)))
            have cb0 : ∀ m, (W2.drewN m).cell? ⟨X, 0, none⟩ = some (.slice (some ⟨g, 0, none⟩) S.L.length c) := fun m => HL2.out _ (Chg.drewN _ C2.out m)
            have cb3 : ∀ m, (W2.drewN m).cell? ⟨g, i * 6 + 3, none⟩ = some (.bool torn) := fun m => by
              rw [(HR2'.out.1.drewN m).cell1 HR2'.out.2 (by decide), HQ2.out, HQ1.out, HTORN.out]; rfl
            have cb4 : ∀ m, (W2.drewN m).cell? ⟨g, i * 6 + 4, none⟩ = some (.bool old) := fun m => by
              rw [(HR2'.out.1.drewN m).cell1 HR2'.out.2 (by decide), HQ2.out, HQ1.out, HOLD.out]; rfl
            have fb3 : ∀ m, (W2.drewN m).frozen? ⟨g, i * 6 + 3, none⟩ = false := fun m => (HR2'.out.1.drewN m).row.free _
            go_upto_region 12 with (fail)
            rw [← hW2]
            clear hW2 ca1 ca2 fa1 cx1 cx0
            refine wp_quiet_tail 15 (by kernel_rfl) (by kernel_rfl) (by kernel_rfl) (by kernel_rfl) (by kernel_rfl) (by kernel_rfl) (by kernel_rfl) (by kernel_rfl) ?_
            simp only [List.take_succ_cons, List.take_zero, List.drop_succ_cons, List.drop_zero]
            repeat (go_big_quiet_step (fail))
            refine wpQuiet_nil ?_
            intro wq hwq
            obtain ⟨nr, rfl⟩ := hwq
            obtain ⟨W3, hW3⟩ : ∃ W : World, W = (W2.drewN nr).setCell ⟨g, i * 6 + 3, none⟩ (.bool old) := ⟨_, rfl⟩
            have HR3 : Hid (RefIs W3 X { S1 with L := S1.L.set i q3.p } F (.slice (some ⟨g, 0, none⟩) Qi.length c) ((Q1.set i q2).set i q3)) := Lib.hid (by
              have hk := (HR2'.out.1.drewN nr).ok1 HR2'.out.2
              have h1 := (HR2'.out.1.drewN nr).put1 HR2'.out.2 (j := 3) (by decide) (.bool old) q3 (by rw [HQ3.out, HQ2.out, HQ1.out, HOLD.out]; rfl) (by rw [HQ3.out]; exact ⟨hk.now, hk.was, hk.fn, hk.fw⟩) (by rw [HQ3.out]) (by rw [HQ3.out, HQ2.out, HQ1.out]; exact HFUL.out.2) (by rw [HQ3.out, HQ2.out, HQ1.out]; exact HFUL.out.2)
              rw [← hW3] at h1
              have h2 := h1.1
              simp only [List.set_set] at h2
              rw [List.set_set]
              exact h2)
            have C3 : Hid (Chg (fun k => k = g) wr W3) := Lib.hid ((Chg.drewN _ C2.out nr).trans (by rw [hW3]; exact Chg.setCell _ _ g _ _ (.inl rfl)))
            go_wp2_with (fail)
            rw [← hW3]
            have hlt := HLT.out
            refine ⟨⟨i + 1, Q1.set i q3, by rw [HEND.out.2]; go_num, by go_num, by omega, ?_, HCi.out.trans (C3.out.mono fun k hk => .inl (by rw [hk]; exact FG.out))⟩, by simp [intOf]; omega⟩
            have h1 := HR3.out
            rw [HS1.out] at h1
            simp only [List.set_set] at h1
            rw [HEND.out.1]
            have hp3 : q3.p = bootP q.p 0 := by rw [HQ3.out, HQ2.out, HQ1.out]; rfl
            rw [hp3] at h1
            have h2 : S0.fuse = S.fuse ∧ S0.dead = S.dead ∧ S0.ops = S.ops := by rw [HS0.out.2]; exact ⟨rfl, rfl, rfl⟩
            rw [h2.1, h2.2.1, h2.2.2] at h1
            exact h1
          · obtain ⟨torn, htorn⟩ : ∃ b, b = q.p.torn := ⟨_, rfl⟩
            have ca3 : W1.cell? ⟨g, i * 6 + 3, none⟩ = some (.bool torn) := by rw [HR1.out.cell1 HQ1a.out (by decide), HQ1.out, htorn]; rfl
            have fa3 : W1.frozen? ⟨g, i * 6 + 3, none⟩ = false := HR1.out.row.free _
            obtain ⟨q2, hq2⟩ : ∃ q2 : PV, q2 = { q1 with p := { q1.p with torn := true } } := ⟨_, rfl⟩
            have HQ2 := Lib.hid hq2
            obtain ⟨W2, hW2⟩ : ∃ W : World, W = W1.setCell ⟨g, i * 6 + 3, none⟩ (.bool true) := ⟨_, rfl⟩
            have HR2 : Hid (RefIs W2 X { S1 with L := S1.L.set i q2.p } F (.slice (some ⟨g, 0, none⟩) Qi.length c) (Q1.set i q2)) := Lib.hid (by
              have hk := HR1.out.ok1 HQ1a.out
              rw [hW2]
              exact (HR1.out.put1 HQ1a.out (by decide) (.bool true) q2 (by rw [HQ2.out]; rfl) (by rw [HQ2.out]; exact ⟨hk.now, hk.was, hk.fn, hk.fw⟩) (by rw [HQ2.out]) (by rw [HQ2.out, HQ1.out]; exact HFUL.out.1) (by rw [HQ2.out, HQ1.out]; exact HFUL.out.2)).1)
            have C2 : Hid (Chg (fun k => k = g) wr W2) := Lib.hid (C1.out.trans (by rw [hW2]; exact Chg.setCell _ _ g _ _ (.inl rfl)))
            clear hq2 htorn
            go_upto_region 10 with (fail)
            rw [← hW1]
            clear hW1 f5 c5 cv
            go_wp2_with (fail)
            rw [← hW2]
            have hlt := HLT.out
            refine ⟨⟨i + 1, Q1.set i q2, by rw [HEND.out.2]; go_num, by go_num, by omega, ?_, HCi.out.trans (C2.out.mono fun k hk => .inl (by rw [hk]; exact FG.out))⟩, by simp [intOf]; omega⟩
            have h1 := HR2.out
            rw [HS1.out] at h1
            simp only [List.set_set] at h1
            rw [HEND.out.1]
            have hp2 : q2.p = bootP q.p 2 := by rw [HQ2.out, HQ1.out]; rfl
            rw [hp2] at h1
            have h2 : S0.fuse = S.fuse ∧ S0.dead = S.dead ∧ S0.ops = S.ops := by rw [HS0.out.2]; exact ⟨rfl, rfl, rfl⟩
            rw [h2.1, h2.2.1, h2.2.2] at h1
            exact h1
      · have ho2 : q.p.opn = false := by simpa using ho
        rw [ho2] at c5
        have HE : Hid (bootAt fs (i + 1) S.L = bootAt fs i S.L ∧ cntO (S.L.take (i + 1)) = j) := Lib.hid (by
          have h1 : (S.L[i]'HLT.out).opn = false := by obtain ⟨_, h2⟩ := HQP.out; rw [← h2]; exact ho2
          refine ⟨bootE_skip HLT.out h1, ?_⟩
          rw [cntO_step HLT.out, h1, HJ.out]
          rfl)
        clear ho ho2
        go_wp2_with (fail)
        have hlt := HLT.out
        refine ⟨⟨i + 1, Qi, by rw [HE.out.2], by go_num, by omega, by rw [HE.out.1]; exact HRi.out, HCi.out⟩, by simp [intOf]; omega⟩
    · have e : i = S.L.length := by omega
      obtain ⟨W1, hW1⟩ : ∃ W : World, W = wr.setCell ⟨X, 1, none⟩ (.int .i64 0) := ⟨_, rfl⟩
      have K1 : Blk W1 X 30 [.slice A Qi.length c, .int .i64 0, .bool S.dead, .int .i64 (S.ops : Int)] := by rw [hW1]; exact HX.out.set 1 _
      have S1 : Hid (Sole wr W1 X) := Lib.hid (by rw [hW1]; exact Sole.setCell wr X 1 _)
      have c2 : W1.cell? ⟨X, 2, none⟩ = some (.bool S.dead) := by rw [K1.cell]; rfl
      have f2 := K1.free 2
      have HK := Lib.hid K1
      have HE : Hid (bootAt fs i S.L = bootL fs 0 S.L) := Lib.hid (by rw [e]; exact bootAt_all fs S.L)
      clear hlt hi hA K1
      subst e
      go_upto_region 16 with (fail)
      rw [← hW1]
      clear hW1 c1 f1
      go_wp2_with (fail)
      refine bodyPost_end (results_none rfl _ _ _) rfl ?_
      refine ⟨rfl, ⟨⟨F, .slice A Qi.length c, Qi, ?_, fun _ => .inl, fun j hj => .inl (by cases A with | none => exact hj | some ad => exact hj)⟩, ?_⟩⟩
      · have h1 := HRi.out
        rw [HE.out] at h1
        exact h1.head (S1.out.trans (Sole.setCell W1 X 2 _)) (bootS S fs) rfl (HK.out.set 2 _) (by show ((0 : Nat) : Int) ≤ _; decide) h1.os
      · refine (HCi.out.trans ((sole_chg (F := fun j => j = X) (S1.out.trans (Sole.setCell W1 X 2 (.bool false))) rfl).mono fun j e => .inl (.inl e))).mono fun j hj => hj.imp id fun e => ?_
        cases A with
        | none => exact e
        | some ad => exact e
end Go.Proofs.Ytkgbfghlonennaa

/- What the ninth layer's laws need of the developers' disk: a predicate that says what a disk is, and what each call makes of it. Premises: the contracts themselves. -/
namespace Go.Proofs.Ytkgbfghlonennaa
open Go.RowKit

/-- What a call leaves of a disk: it stands, its blocks are among the elder ones or new; nothing else has changed. -/
structure DLeft (Is : World → Value → DS → (Nat → Prop) → Prop) (w w' : World) (p : Value) (S : DS) (F : Nat → Prop) : Prop where
  disk : ∃ F', Is w' p S F' ∧ ∀ j, F' j → F j ∨ w.heap.size ≤ j
  chg : Chg F w w'
/-- A disk that has just been made: all its blocks are new. -/
def DNew (Is : World → Value → DS → (Nat → Prop) → Prop) (w w' : World) (p : Value) (S : DS) : Prop := (∃ F, Is w' p S F ∧ ∀ k, F k → w.heap.size ≤ k) ∧ Below w.heap.size w w'
structure DiskC where
  Is : World → Value → DS → (Nat → Prop) → Prop
  other : ∀ {w w' : World} {p : Value} {S : DS} {F G : Nat → Prop}, Is w p S F → Chg G w w' → (∀ k, F k → ¬ G k) → Is w' p S F
  lt : ∀ {w : World} {p : Value} {S : DS} {F : Nat → Prop}, Is w p S F → ∀ k, F k → k < w.heap.size
  good : ∀ {w : World} {p : Value} {S : DS} {F : Nat → Prop}, Is w p S F → DOk S
  new : ∀ w, Calls Try.prog 9 #[] w fun e w' => ∃ p, e = .returned p ∧ DNew Is w w' p newS
  write : ∀ {w : World} {p : Value} {S : DS} {F : Nat → Prop}, Is w p S F → ∀ (k : Int) (u : Value) (bs : List UInt8), (Lit.int .i64 k).wf = true → Rd w u bs → bs.length ≤ 1000 → S.ops < 1000000 → (0 < bs.length → ∀ j, u.ownBlock = some j → ¬ F j) →
    Calls Try.prog 15 #[p, .int .i64 k, u] w fun e w' => e = .returned (.int .i64 ((writeS S k bs).2 : Int)) ∧ DLeft Is w w' p (writeS S k bs).1 F
  sync : ∀ {w : World} {p : Value} {S : DS} {F : Nat → Prop}, Is w p S F → S.ops < 1000000 →
    Calls Try.prog 16 #[p] w fun e w' => e = .returned (.int .i64 ((syncS S).2 : Int)) ∧ DLeft Is w w' p (syncS S).1 F
  fuse : ∀ {w : World} {p : Value} {S : DS} {F : Nat → Prop}, Is w p S F → ∀ n : Int, (Lit.int .i64 n).wf = true →
    Calls Try.prog 21 #[p, .int .i64 n] w fun e w' => e = .returned (.int .i64 ((fuseS S n).2 : Int)) ∧ DLeft Is w w' p (fuseS S n).1 F
  boot : ∀ {w : World} {p : Value} {S : DS} {F : Nat → Prop}, Is w p S F → ∀ (u : Value) (fs : List UInt8), Rd w u fs → fs.length ≤ 1000 → (0 < fs.length → ∀ j, u.ownBlock = some j → ¬ F j) →
    Calls Try.prog 17 #[p, u] w fun e w' => e = .returned (.tuple #[]) ∧ DLeft Is w w' p (bootS S fs) F
  read : ∀ {w : World} {p : Value} {S : DS} {F : Nat → Prop}, Is w p S F → ∀ k : Int, (Lit.int .i64 k).wf = true →
    Calls Try.prog 18 #[p, .int .i64 k] w fun e w' => ∃ u, e = .returned (.tuple #[u, .int .i64 ((readS S k).2 : Int)]) ∧ Rd w' u (readS S k).1 ∧ (∀ j, u.ownBlock = some j → w.heap.size ≤ j) ∧ Below w.heap.size w w'
  dead : ∀ {w : World} {p : Value} {S : DS} {F : Nat → Prop}, Is w p S F → Calls Try.prog 22 #[p] w fun e w' => e = .returned (.bool S.dead) ∧ Below w.heap.size w w'
  ops : ∀ {w : World} {p : Value} {S : DS} {F : Nat → Prop}, Is w p S F → Calls Try.prog 23 #[p] w fun e w' => e = .returned (.int .i64 (S.ops : Int)) ∧ Below w.heap.size w w'
  raw : ∀ {w : World} {p : Value} {S : DS} {F : Nat → Prop}, Is w p S F → Calls Try.prog 12 #[p] w fun e w' => ∃ u, e = .returned u ∧ Rd w' u (rawS S) ∧ Below w.heap.size w w'
  copy : ∀ {w : World} {p : Value} {S : DS} {F : Nat → Prop}, Is w p S F → Calls Try.prog 19 #[p] w fun e w' => ∃ q, e = .returned q ∧ DNew Is w w' q S
/-- The same, of a disk that is none. -/
structure DiskN : Prop where
  write : ∀ (k : Int) (u : Value) (bs : List UInt8) (w : World), (Lit.int .i64 k).wf = true → Rd w u bs → Calls Try.prog 15 #[.pointer none, .int .i64 k, u] w fun e w' => e = .returned (.int .i64 10) ∧ Below w.heap.size w w'
  sync : ∀ w : World, Calls Try.prog 16 #[.pointer none] w fun e w' => e = .returned (.int .i64 10) ∧ Below w.heap.size w w'
  fuse : ∀ (n : Int) (w : World), (Lit.int .i64 n).wf = true → Calls Try.prog 21 #[.pointer none, .int .i64 n] w fun e w' => e = .returned (.int .i64 10) ∧ Below w.heap.size w w'
  boot : ∀ (u : Value) (fs : List UInt8) (w : World), Rd w u fs → Calls Try.prog 17 #[.pointer none, u] w fun e w' => e = .returned (.tuple #[]) ∧ Below w.heap.size w w'
  read : ∀ (k : Int) (w : World), (Lit.int .i64 k).wf = true → Calls Try.prog 18 #[.pointer none, .int .i64 k] w fun e w' => ∃ u, e = .returned (.tuple #[u, .int .i64 1]) ∧ Rd w' u [] ∧ Below w.heap.size w w'
  dead : ∀ w : World, Calls Try.prog 22 #[.pointer none] w fun e w' => e = .returned (.bool false) ∧ Below w.heap.size w w'
  ops : ∀ w : World, Calls Try.prog 23 #[.pointer none] w fun e w' => e = .returned (.int .i64 0) ∧ Below w.heap.size w w'
  raw : ∀ w : World, Calls Try.prog 12 #[.pointer none] w fun e w' => ∃ u, e = .returned u ∧ Rd w' u [] ∧ Below w.heap.size w w'
  copy : ∀ w : World, Calls Try.prog 19 #[.pointer none] w fun e w' => e = .returned (.pointer none) ∧ Below w.heap.size w w'
/-- The reference's disk, its row and its sectors told by nobody. -/
def RefD (w : World) (X : Nat) (S : DS) (F : Nat → Prop) : Prop := ∃ v Q, RefIs w X S F v Q
theorem RefD.other {w w' : World} {X : Nat} {S : DS} {F G : Nat → Prop} (h : RefD w X S F) (hc : Chg G w w') (hd : ∀ k, F k → ¬ G k) : RefD w' X S F := by
  obtain ⟨v, Q, h⟩ := h
  exact ⟨v, Q, h.other hc hd⟩
/-- An act: what is done, where, with which bytes. -/
structure ActV where
  kind : Int
  plc : Int
  bs : List UInt8
structure ActOk (w : World) (a : ActV) (u : Value) : Prop where
  wk : (Lit.int .i64 a.kind).wf = true
  wp : (Lit.int .i64 a.plc).wf = true
  rd : Rd w u a.bs
theorem ActOk.below {w w' : World} {a : ActV} {u : Value} (h : ActOk w a u) (hb : Below w.heap.size w w') : ActOk w' a u := ⟨h.wk, h.wp, h.rd.below hb⟩
def stepS (S : DS) (m : Nat) (a : ActV) : DS × Nat := if m = 4 then syncS S else if m = 5 then fuseS S a.plc else if m = 6 then (bootS S a.bs, 0) else writeS S a.plc a.bs
theorem burnS_ops (S : DS) : (burnS S).1.ops = S.ops + 1 := by
  unfold burnS
  split
  · split <;> rfl
  · rfl
theorem stepS_ops (S : DS) (m : Nat) (a : ActV) : (stepS S m a).1.ops ≤ S.ops + 1 := by
  have hw : ∀ k bs, (writeS S k bs).1.ops ≤ S.ops + 1 := fun k bs => by
    unfold writeS
    split
    · exact Nat.le_succ _
    · split
      · exact Nat.le_succ _
      · split
        · exact Nat.le_succ _
        · exact Nat.le_of_eq (burnS_ops _)
  have hs : (syncS S).1.ops ≤ S.ops + 1 := by
    unfold syncS
    split
    · exact Nat.le_succ _
    · have h := burnS_ops S
      dsimp only
      split
      · exact Nat.le_of_eq h
      · exact Nat.le_of_eq h
  have hf : (fuseS S a.plc).1.ops ≤ S.ops + 1 := by
    unfold fuseS
    split <;> exact Nat.le_succ _
  unfold stepS
  split
  · exact hs
  · split
    · exact hf
    · split
      · exact Nat.le_succ _
      · exact hw _ _
theorem readS_code (S : DS) (k : Int) : (readS S k).2 ≤ 9 := by
  unfold readS
  split
  · show 1 ≤ 9
    decide
  · split
    · show 0 ≤ 9
      decide
    · split
      · show 9 ≤ 9
        decide
      · show 0 ≤ 9
        decide
theorem chg_below {F : Nat → Prop} {w w' : World} (h : Below w.heap.size w w') : Chg F w w' := ⟨h.os, h.tape, h.output, h.size, fun k hk _ => h.block k hk⟩
theorem chg_none {w w' : World} (h : Below w.heap.size w w') : Chg (fun _ => False) w w' := chg_below h
theorem chg_join {F : Nat → Prop} {a b c : World} (h : Chg F a b) (k : Chg F b c) : Chg F a c := h.trans (k.mono fun _ h => .inl h)
end Go.Proofs.Ytkgbfghlonennaa
