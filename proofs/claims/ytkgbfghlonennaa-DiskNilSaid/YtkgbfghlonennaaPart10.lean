/- Part 10 of the words that the laws share: DRefC, DRefD, DRefE. No condition of its own: each theorem says its own. -/
import Derived.Test.YtkgbfghlonennaaPart9
import Derived.Test.YtkgbfghlonennaaPart7
import Derived.OwnWalk

/- The ninth reference's zero, Read and Sync: contracts. Conditions: the disk is as a disk is; fewer than a million changes. -/
namespace Go.Proofs.Ytkgbfghlonennaa
open Go.RowKit

set_option maxRecDepth 100000 in
set_option maxHeartbeats 1000000 in
theorem refZero_any (w : World) : Calls Try.prog 31 #[] w fun e w' => e = .returned (.slice (some ⟨w.heap.size, 0, none⟩) 128 128) ∧ Blk w' w.heap.size 5 (z128.map bv) ∧ Below w.heap.size w w' := by
  obtain ⟨i0, hi, hz0, hz1, hz2⟩ := info_parts info_u8
  go_enter Try.func31, Try.ntmps31
  go_wp2_with (at_make
               refine wpList_make_full _ rfl _ _ _ rfl w.heap.size 5 i0 _ 1 Try.underlying32 hi hz0 hz1 _ _ _ _ 128 rfl rfl ?_ ?_ ?_ ?_ (Nat.le_refl _) ?_
               · omega
               · omega
               · rw [hz2]; omega
               · unfold maxLen; omega
               intro w1 own1 g1)
  have hb := blk_of_own own1
  rw [made_one rfl] at hb
  have e : z128.map bv = List.replicate 128 (Value.int .u8 0) := by simp [z128, bv]
  go_ret
  exact ⟨rfl, by rw [e]; exact hb, (Below.refl _ _).grown g1 (Nat.le_refl _) (by simp)⟩
theorem z128_rd {w : World} {B : Nat} (h : Blk w B 5 (z128.map bv)) : Rd w (.slice (some ⟨B, 0, none⟩) 128 128) z128 := by
  have h1 := h.rd 128 128 (by simp [z128]) (Nat.le_refl _) (by unfold maxLen; omega)
  rw [List.take_of_length_le (by simp [z128])] at h1
  exact h1
theorem findI_lt {L : List Pl} {k : Int} : (0 : Int) ≤ findI L k ↔ findL L k < L.length := by
  unfold findI
  split
  · rename_i h
    exact ⟨fun _ => h, fun _ => by omega⟩
  · rename_i h
    exact ⟨fun h2 => by omega, fun h2 => absurd h2 h⟩
set_option maxRecDepth 100000 in
set_option maxHeartbeats 1000000 in
theorem refRead_any {w : World} {X : Nat} {S : DS} {F : Nat → Prop} {v : Value} {Q : List PV} (h : RefIs w X S F v Q) (k : Int) :
    Calls Try.prog 13 #[.pointer (some ⟨X, 0, none⟩), .int .i64 k] w fun e w' => ∃ u, e = .returned (.tuple #[u, .int .i64 ((readS S k).2 : Int)]) ∧ Rd w' u (readS S k).1 ∧ Below w.heap.size w w' := by
  obtain ⟨A, c, rfl, hc1, hc2, hA⟩ := h.form
  have HR := Lib.hid h
  have HA := Lib.hid hA
  have HLn := Lib.hid h.len
  have n1 : (Q.length : Int) ≤ 1024 := by have := h.good.length; have := h.len; omega
  have cv : w.cell? ⟨X, 0, none⟩ = some (.slice A Q.length c) := by rw [h.blk.cell]; rfl
  have HF := Lib.hid (refFind_any h k)
  clear hA h hc1 hc2
  by_cases h1 : k < 0
  · have HE : Hid (readS S k = ([], 1)) := Lib.hid (by unfold readS; rw [if_pos (.inl h1)])
    go_enter Try.func13, Try.ntmps13
    go_wp2_with (fail)
    go_ret2
    rw [HE.out]
    exact ⟨_, rfl, Rd.nil _, Below.refl _ _⟩
  have g1 : decide (k < 0) = false := decide_eq_false h1
  by_cases h2 : 1024 ≤ k
  · have HE : Hid (readS S k = ([], 1)) := Lib.hid (by unfold readS; rw [if_pos (.inr h2)])
    clear h1
    go_enter Try.func13, Try.ntmps13
    go_wp2_with (fail)
    go_ret2
    rw [HE.out]
    exact ⟨_, rfl, Rd.nil _, Below.refl _ _⟩
  have g2 : decide (1024 ≤ k) = false := decide_eq_false h2
  by_cases h3 : findL S.L k < S.L.length
  · obtain ⟨i, hi⟩ : ∃ i, i = findL S.L k := ⟨_, rfl⟩
    have hiQ : i < Q.length := by rw [HLn.out, hi]; exact h3
    have eF : findI S.L k = (i : Int) := by unfold findI; rw [if_pos h3, hi]
    rw [eF] at HF
    have hI : (i : Int) < Q.length := by omega
    have i0 : decide ((i : Int) < 0) = false := decide_eq_false (by omega)
    obtain ⟨g, rfl, hg⟩ := HA.out (by omega)
    have hp : S.L[findL S.L k]? = some Q[i].p := by
      rw [List.getElem?_eq_getElem h3]
      congr 1
      have := HR.out.at hiQ
      simp only [hi] at this ⊢
      exact this
    have c3 : w.cell? ⟨g, i * 6 + 3, none⟩ = some (.bool (Q[i].p).torn) := by rw [HR.out.cell hiQ (by decide)]; rfl
    have c1 : w.cell? ⟨g, i * 6 + 1, none⟩ = some Q[i].vn := by rw [HR.out.cell hiQ (by decide)]; rfl
    have HOK := Lib.hid (HR.out.ok Q[i] (List.getElem_mem hiQ))
    obtain ⟨q, hq⟩ : ∃ q, q = Q[i] := ⟨_, rfl⟩
    rw [← hq] at hp c3 c1 HOK
    by_cases ht : q.p.torn = true
    · have HE : Hid (readS S k = ([], 9)) := Lib.hid (by unfold readS; rw [if_neg (by omega), hp]; show (if q.p.torn = true then _ else _) = _; rw [if_pos ht])
      rw [ht] at c3
      clear hp hq h1 h2 h3 hi eF ht
      go_enter Try.func13, Try.ntmps13
      go_wp2_with (fail)
      refine HF.out.mono ?_
      rintro e w1 ⟨rfl, rfl⟩
      go_wp2_with (fail)
      go_ret2
      rw [HE.out]
      exact ⟨_, rfl, Rd.nil _, Below.refl _ _⟩
    · have hf : q.p.torn = false := by simpa using ht
      have HE : Hid (readS S k = (q.p.now, 0)) := Lib.hid (by unfold readS; rw [if_neg (by omega), hp]; show (if q.p.torn = true then _ else _) = _; rw [if_neg ht])
      rw [hf] at c3
      obtain ⟨vn, hvn⟩ : ∃ vn, vn = q.vn := ⟨_, rfl⟩
      rw [← hvn] at c1
      have RN : Hid (Rd w vn q.p.now) := Lib.hid (by rw [hvn]; exact HOK.out.now)
      clear hp hq h1 h2 h3 hi eF ht hf hvn
      go_enter Try.func13, Try.ntmps13
      go_wp2_with (fail)
      refine HF.out.mono ?_
      rintro e w1 ⟨rfl, rfl⟩
      go_wp2_with (fail)
      go_ret2
      rw [HE.out]
      exact ⟨_, rfl, RN.out, Below.refl _ _⟩
  · have eF : findI S.L k = -1 := by unfold findI; rw [if_neg h3]
    rw [eF] at HF
    have HE : Hid (readS S k = (z128, 0)) := Lib.hid (by
      unfold readS
      rw [if_neg (by omega), List.getElem?_eq_none (by omega)])
    clear h1 h2 h3 eF
    go_enter Try.func13, Try.ntmps13
    go_wp2_with (fail)
    refine HF.out.mono ?_
    rintro e w1 ⟨rfl, rfl⟩
    go_wp2_with (fail)
    refine (refZero_any _).mono ?_
    rintro e w2 ⟨rfl, hb, hbel⟩
    have RZ := Lib.hid (z128_rd hb)
    have BZ := Lib.hid hbel
    clear hb hbel
    go_wp2_with (fail)
    go_ret2
    rw [HE.out]
    exact ⟨_, rfl, RZ.out, BZ.out⟩
end Go.Proofs.Ytkgbfghlonennaa

/- The ninth reference's Sync: a place's cell stored; contract. Conditions: the disk is as a disk is; fewer than a million changes. -/
namespace Go.Proofs.Ytkgbfghlonennaa
open Go.RowKit

theorem DOk.put {S : DS} (h : DOk S) {i : Nat} {p : Pl} (hi : i < S.L.length) (hp : p.plc = S.L[i].plc) (hn : p.now.length = 128) (hw : p.was.length = 128) {S' : DS} (hL : S'.L = S.L.set i p) : DOk S' := by
  refine ⟨?_, ?_, ?_⟩
  · rw [hL]
    intro q hq
    rcases List.mem_or_eq_of_mem_set hq with h1 | h1
    · exact h.low q h1
    · rw [h1, hp]
      exact h.low _ (List.getElem_mem hi)
  · rw [hL, List.pairwise_iff_getElem]
    intro a b ha hb hab
    have hr := h.rise
    rw [List.pairwise_iff_getElem] at hr
    rw [List.length_set] at ha hb
    have h1 := hr a b ha hb hab
    rw [List.getElem_set, List.getElem_set]
    by_cases ea : i = a
    · subst ea
      rw [if_pos rfl, if_neg (by omega), hp]
      exact h1
    · by_cases eb : i = b
      · subst eb
        rw [if_neg ea, if_pos rfl, hp]
        exact h1
      · rw [if_neg ea, if_neg eb]
        exact h1
  · rw [hL]
    intro q hq
    rcases List.mem_or_eq_of_mem_set hq with h1 | h1
    · exact h.full q h1
    · rw [h1]
      exact ⟨hn, hw⟩
theorem RefIs.put {w : World} {X : Nat} {S : DS} {F : Nat → Prop} {Q : List PV} {g m c : Nat} (h : RefIs w X S F (.slice (some ⟨g, 0, none⟩) m c) Q) {i j : Nat} (hi : i < Q.length) (hj : j < 6) (u : Value) (q : PV) (hq : Q[i].cells.set j u = q.cells)
    (hok : PvOk w F X (.slice (some ⟨g, 0, none⟩) m c) q) (hp : q.p.plc = Q[i].p.plc) (hn : q.p.now.length = 128) (hw : q.p.was.length = 128) {S' : DS} (hL : S'.L = S.L.set i q.p) (hf : S'.fuse = S.fuse) (hd : S'.dead = S.dead) (ho : S'.ops = S.ops) :
    RefIs (w.setCell ⟨g, i * 6 + j, none⟩ u) X S' F (.slice (some ⟨g, 0, none⟩) m c) (Q.set i q) := by
  obtain ⟨hg1, hg2⟩ := h.fv g rfl
  have hc : Chg (fun k => k = g) w (w.setCell ⟨g, i * 6 + j, none⟩ u) := Chg.setCell _ w g _ u rfl
  have hiS : i < S.L.length := by rw [← h.len]; exact hi
  have K : ∀ r : PV, PvOk w F X (.slice (some ⟨g, 0, none⟩) m c) r → PvOk (w.setCell ⟨g, i * 6 + j, none⟩ u) F X (.slice (some ⟨g, 0, none⟩) m c) r := fun r hr =>
    ⟨hc.rd hr.now fun k hk e => (hr.fn k hk).2.2 (by rw [e]; rfl), hc.rd hr.was fun k hk e => (hr.fw k hk).2.2 (by rw [e]; rfl), hr.fn, hr.fw⟩
  refine ⟨?_, ?_, ?_, h.fx, h.fv, ?_, fun k hk => Nat.lt_of_lt_of_le (h.fl k hk) hc.size, h.good.put hiS (by rw [hp, ← h.at hi]) hn hw hL, by rw [hf]; exact h.fz, by rw [ho]; exact h.os⟩
  · rw [hf, hd, ho]
    exact hc.blk h.blk fun e => hg2 e.symm
  · have h1 := h.row.stored i j u (by simpa using hi) hj
    have e : (Q.map PV.cells).getD i [] = Q[i].cells := by rw [List.getD, List.getElem?_map, List.getElem?_eq_getElem hi]; rfl
    rw [e, hq, ← List.map_set] at h1
    exact h1
  · rw [List.map_set, h.pls, hL]
  · intro r hr
    rcases List.mem_or_eq_of_mem_set hr with h1 | h1
    · exact K r (h.ok r h1)
    · rw [h1]
      exact K q hok
/-- The first i of a list, each as f makes it; the rest. -/
def upto {α : Type _} (f : α → α) (i : Nat) (L : List α) : List α := (L.take i).map f ++ L.drop i
theorem upto_length {α : Type _} (f : α → α) (i : Nat) (L : List α) : (upto f i L).length = L.length := by simp [upto]; omega
theorem upto_at {α : Type _} (f : α → α) {i : Nat} {L : List α} (hi : i < L.length) : (upto f i L)[i]'(by rw [upto_length]; exact hi) = L[i] := by
  have h1 : ((L.take i).map f).length = i := by simp; omega
  unfold upto
  rw [List.getElem_append_right (by omega), List.getElem_drop]
  congr 1
  omega
theorem upto_set {α : Type _} (f : α → α) {i : Nat} {L : List α} (hi : i < L.length) : (upto f i L).set i (f L[i]) = upto f (i + 1) L := by
  have h1 : ((L.take i).map f).length = i := by simp; omega
  unfold upto
  rw [List.set_append_right _ _ (by omega), h1, Nat.sub_self, List.drop_eq_getElem_cons hi, List.set_cons_zero, List.take_add_one, List.map_append, List.append_assoc, List.getElem?_eq_getElem hi]
  rfl
theorem upto_all {α : Type _} (f : α → α) (L : List α) : upto f L.length L = L.map f := by simp [upto]
theorem upto_zero {α : Type _} (f : α → α) (L : List α) : upto f 0 L = L := by simp [upto]
def safeQ (q : PV) : PV := { q with p := safeP q.p }
def SynRel (w : World) (X : Nat) (S : DS) (F : Nat → Prop) (u : Value) (Q : List PV) (v : Value) (W : World) : Prop := ∃ i : Nat, v = .int .i64 (i : Int) ∧ i ≤ Q.length ∧ RefIs W X { S with L := upto safeP i S.L } F u (upto safeQ i Q) ∧ Chg (Wrt X u) w W
theorem DOk.ops {S S' : DS} (h : DOk S) (hL : S'.L = S.L) : DOk S' := ⟨by rw [hL]; exact h.low, by rw [hL]; exact h.rise, by rw [hL]; exact h.full⟩
theorem burnS_L (S : DS) : (burnS S).1.L = S.L := by
  unfold burnS
  split
  · split <;> rfl
  · rfl
set_option maxRecDepth 100000 in
set_option maxHeartbeats 1000000 in
theorem refSync_any {w : World} {X : Nat} {S : DS} {F : Nat → Prop} {v : Value} {Q : List PV} (h : RefIs w X S F v Q) (ho : S.ops < 1000000) :
    Calls Try.prog 25 #[.pointer (some ⟨X, 0, none⟩)] w fun e w' => e = .returned (.int .i64 ((syncS S).2 : Int)) ∧ (∃ Q', RefIs w' X (syncS S).1 F v Q') ∧ Chg (Wrt X v) w w' := by
  have HR := Lib.hid h
  have HO := Lib.hid ho
  have c2 : w.cell? ⟨X, 2, none⟩ = some (.bool S.dead) := by rw [h.blk.cell]; rfl
  clear h ho
  by_cases hd : S.dead = true
  · have HE : Hid (syncS S = (S, 10)) := Lib.hid (by unfold syncS; rw [if_pos hd])
    rw [hd] at c2
    go_enter Try.func25, Try.ntmps25
    go_wp2_with (fail)
    go_ret
    rw [HE.out]
    exact ⟨rfl, ⟨Q, HR.out⟩, Chg.refl _ _⟩
  have hd' : S.dead = false := by simpa using hd
  rw [hd'] at c2
  have HB := Lib.hid (refBurn_any HR.out HO.out)
  by_cases hb : (burnS S).2 = true
  · have HE : Hid (syncS S = ((burnS S).1, 10)) := Lib.hid (by unfold syncS; rw [if_neg hd]; show (if (burnS S).2 = true then _ else _) = _; rw [if_pos hb])
    have HT := Lib.hid hb
    clear hb hd hd'
    go_enter Try.func25, Try.ntmps25
    go_wp2_with (fail)
    refine HB.out.mono ?_
    rintro e w1 ⟨rfl, hR1, hs1⟩
    have HR1 := Lib.hid hR1
    have HS1 := Lib.hid hs1
    clear hR1 hs1
    rw [HT.out]
    go_wp2_with (fail)
    go_ret
    rw [HE.out]
    exact ⟨rfl, ⟨Q, HR1.out⟩, sole_chg HS1.out (.inl rfl)⟩
  have hb' : (burnS S).2 = false := by simpa using hb
  obtain ⟨S1, hS1⟩ : ∃ S1, S1 = (burnS S).1 := ⟨_, rfl⟩
  have HE : Hid (syncS S = ({ S1 with L := S1.L.map safeP }, 0)) := Lib.hid (by unfold syncS; rw [if_neg hd]; show (if (burnS S).2 = true then _ else _) = _; rw [if_neg hb, hS1])
  have HT := Lib.hid hb'
  rw [← hS1] at HB
  clear hb hb' hd hd' hS1
  go_enter Try.func25, Try.ntmps25
  go_wp2_with (fail)
  refine HB.out.mono ?_
  rintro e w1 ⟨rfl, hR1, hs1⟩
  obtain ⟨A, c, rfl, hc1, hc2, hA⟩ := hR1.form
  have HA := Lib.hid hA
  have n1 : (Q.length : Int) ≤ 1024 := by have := hR1.good.length; have := hR1.len; omega
  have HL := Lib.hid hR1.len
  have HR1 := Lib.hid hR1
  have HS1 : Hid (Chg (Wrt X (.slice A Q.length c)) w w1) := Lib.hid (sole_chg hs1 (.inl rfl))
  clear hR1 hs1 hA hc1 hc2 c2
  rw [HT.out]
  go_wp2_with (fail)
  go_loopw [3] (fun v wx => SynRel w X S1 F (.slice A Q.length c) Q v wx) (fun v _ => Q.length - (intOf v).toNat)
  case atStart => exact ⟨0, rfl, Nat.zero_le _, by rw [upto_zero, upto_zero]; exact HR1.out, HS1.out⟩
  case round =>
    obtain ⟨i, rfl, hi, hR, hC⟩ := hrel
    have cv : wr.cell? ⟨X, 0, none⟩ = some (.slice A Q.length c) := by rw [hR.blk.cell]; rfl
    have HRi := Lib.hid hR
    have HCi := Lib.hid hC
    clear hR hC
    by_cases hlt : i < Q.length
    · have hI : (i : Int) < Q.length := by omega
      obtain ⟨g, rfl, hg⟩ := HA.out (by omega)
      have ff : wr.frozen? ⟨g, i * 6 + 5, none⟩ = false := HRi.out.row.free _
      obtain ⟨op, hop⟩ : ∃ op, op = (Q[i].p).opn := ⟨_, rfl⟩
      have c5 : wr.cell? ⟨g, i * 6 + 5, none⟩ = some (.bool op) := by
        rw [hop, HRi.out.cell (i := i) (j := 5) (by rw [upto_length]; exact hlt) (by decide), upto_at _ hlt]
        rfl
      have HN : Hid (RefIs (wr.setCell ⟨g, i * 6 + 5, none⟩ (.bool false)) X { S1 with L := upto safeP (i + 1) S1.L } F (.slice (some ⟨g, 0, none⟩) Q.length c) (upto safeQ (i + 1) Q)) := Lib.hid (by
        have hL1 : i < S1.L.length := by rw [← HL.out]; exact hlt
        have hP : S1.L[i] = Q[i].p := HR1.out.at hlt
        have hQ' : i < (upto safeQ i Q).length := by rw [upto_length]; exact hlt
        have e1 := upto_at safeQ hlt
        have hok := HRi.out.ok _ (List.getElem_mem hQ')
        rw [e1] at hok
        have hfl := HR1.out.good.full _ (List.getElem_mem hL1)
        rw [hP] at hfl
        rw [← upto_set safeQ hlt]
        refine HRi.out.put hQ' (by decide) (.bool false) (safeQ Q[i]) (by rw [e1]; rfl) ⟨hok.now, hok.was, hok.fn, hok.fw⟩ (by rw [e1]; rfl) hfl.1 hfl.2 ?_ rfl rfl rfl
        show upto safeP (i + 1) S1.L = (upto safeP i S1.L).set i (safeP Q[i].p)
        rw [← upto_set safeP hL1, hP])
      have HC2 : Hid (Chg (Wrt X (.slice (some ⟨g, 0, none⟩) Q.length c)) w (wr.setCell ⟨g, i * 6 + 5, none⟩ (.bool false))) := Lib.hid (HCi.out.trans (Chg.setCell _ wr g _ _ (.inl (.inr rfl))))
      have HI := Lib.hid hlt
      clear hop hi hlt
      go_wp2_with (fail)
      have hlt := HI.out
      exact ⟨⟨i + 1, by go_num, by omega, HN.out, HC2.out⟩, by simp [intOf]; omega⟩
    · have e : i = Q.length := by omega
      subst e
      clear hi hlt
      go_wp2_with (fail)
      go_ret
      rw [HE.out]
      refine ⟨rfl, ⟨upto safeQ Q.length Q, ?_⟩, HCi.out⟩
      have h1 := HRi.out
      rw [show upto safeP Q.length S1.L = S1.L.map safeP by rw [HL.out, upto_all]] at h1
      exact h1
end Go.Proofs.Ytkgbfghlonennaa

/- The ninth reference's Write, its first loop: the sectors below one. Conditions: the disk is as a disk is. -/
namespace Go.Proofs.Ytkgbfghlonennaa
open Go.RowKit

/-- How many lie below a place. -/
def tw (L : List Pl) (k : Nat) : Nat := L.findIdx fun p => !decide (p.plc < k)
theorem tw_le (L : List Pl) (k : Nat) : tw L k ≤ L.length := List.findIdx_le_length
theorem tw_take (L : List Pl) (k : Nat) : L.takeWhile (fun p => decide (p.plc < k)) = L.take (tw L k) := List.takeWhile_eq_take_findIdx_not
theorem tw_drop (L : List Pl) (k : Nat) : L.dropWhile (fun p => decide (p.plc < k)) = L.drop (tw L k) := List.dropWhile_eq_drop_findIdx_not
theorem tw_go {L : List Pl} {k i : Nat} (hi : i < L.length) (hk : i ≤ tw L k) (h : L[i].plc < k) : i + 1 ≤ tw L k := by
  rcases Nat.lt_or_ge i (tw L k) with h1 | h1
  · exact h1
  · have e : i = tw L k := by omega
    exfalso
    have hw : L.findIdx (fun p : Pl => !decide (p.plc < k)) < L.length := by show tw L k < L.length; omega
    have h2 := List.findIdx_getElem (w := hw)
    have e2 : L.findIdx (fun p : Pl => !decide (p.plc < k)) = i := e.symm
    simp only [e2] at h2
    simp [h] at h2
theorem tw_stop {L : List Pl} {k i : Nat} (hk : i ≤ tw L k) (h : ∀ hi : i < L.length, ¬ L[i].plc < k) : i = tw L k := by
  rcases Nat.lt_or_ge i (tw L k) with h1 | h1
  · have hl := tw_le L k
    have h2 := List.not_of_lt_findIdx (p := fun p : Pl => !decide (p.plc < k)) (xs := L) h1
    have h3 := h (by omega)
    simp [h3] at h2
  · omega
theorem Rd.one {w : World} {v : Value} {xs : List UInt8} (h : Rd w v xs) : v.oneCell' = true := by
  rcases h with ⟨A, c, rfl, _⟩ | ⟨b, off, c, rfl, _⟩ <;> rfl
theorem PvOk.one {w : World} {F : Nat → Prop} {X : Nat} {v : Value} {q : PV} (h : PvOk w F X v q) : ∀ u ∈ q.cells, u.oneCell' = true := by
  intro u hu
  simp only [PV.cells, List.mem_cons, List.not_mem_nil, or_false] at hu
  rcases hu with rfl | rfl | rfl | rfl | rfl | rfl
  · rfl
  · exact h.now.one
  · exact h.was.one
  · rfl
  · rfl
  · rfl
theorem info_place : (Try.prog.info? 40).map (fun i => (i.zero, i.size, i.bytes)) = some (some (.agg #[.int .i64 0, .slice none 0 0, .slice none 0 0, .bool false, .bool false, .bool false]), 6, 64) := by kernel_rfl
def WraRel (k : Nat) (L : List Pl) (Q : List PV) (w : World) (o v : Value) (W : World) : Prop := ∃ i : Nat, v = .int .i64 (i : Int) ∧ i ≤ tw L k ∧ OwnR 6 W w.heap.size 40 o ((Q.take i).map PV.cells) ∧ Below w.heap.size w W
noncomputable def body_wra : Code := (((Try.f27.body.map loopsOf).getD [])[0]?).getD .skip
set_option maxRecDepth 100000 in
set_option maxHeartbeats 2000000 in
theorem wra_loop (c2 c3 c4 c5 c6 c9 c10 c11 c12 c13 c14 c15 c16 c17 c18 c19 c20 c21 c22 c23 c24 c25 c26 c27 c28 c29 c30 c31 c32 c33 c34 c35 c36 c37 c38 c39 c40 c41 c42 c43 c44 c45 c46 c47 c48 c49 c50 c51 c52 c53 c54 c55 c56 c57 c58 c59 c60 c61 c62 c63 c64 c65 c66 c67 c68 c69 c70 c71 c72 c73 c74 c75 c76 c77 c78 c79 c80 c81 c82 c83 c84 c85 c86 c87 c88 c89 c90 c91 c92 c93 c94 c95 c96 c97 c98 c99 c100 c101 c102 c103 c104 c105 c106 c107 c108 c109 c110 c111 c112 c113 c114 c115 c116 c117 c118 c119 c120 c121 c122 c123 c124 c125 c126 : Value) {X : Nat} {S : DS} {F : Nat → Prop} {A : Option Addr} {c : Nat} {P : List PV} (k : Nat) (w : World) (hR : Hid (RefIs w X S F (.slice A P.length c) P)) {Q : Exit → Act → World → Prop}
    (HQ : Hid (∀ (u30 u31 u32 u33 u34 u35 u36 u37 u38 u39 u40 u41 u42 u43 u44 u45 u46 u47 u48 u49 u50 u51 u52 u53 u54 u55 u56 u57 u58 u59 u60 o : Value) (wx : World), Hid (OwnR 6 wx w.heap.size 40 o ((P.take (tw S.L k)).map PV.cells)) → Hid (Below w.heap.size w wx) → Q (.exit 0) ⟨List.toArray ((.pointer (some ⟨X, 0, none⟩)) :: (.int .i64 (k : Int)) :: c2 :: c3 :: c4 :: c5 :: c6 :: o :: (.int .i64 (tw S.L k : Int)) :: c9 :: c10 :: c11 :: c12 :: c13 :: c14 :: c15 :: c16 :: c17 :: c18 :: c19 :: c20 :: c21 :: c22 :: c23 :: c24 :: c25 :: c26 :: c27 :: c28 :: c29 :: u30 :: u31 :: u32 :: u33 :: u34 :: u35 :: u36 :: u37 :: u38 :: u39 :: u40 :: u41 :: u42 :: u43 :: u44 :: u45 :: u46 :: u47 :: u48 :: u49 :: u50 :: u51 :: u52 :: u53 :: u54 :: u55 :: u56 :: u57 :: u58 :: u59 :: u60 :: c61 :: c62 :: c63 :: c64 :: c65 :: c66 :: c67 :: c68 :: c69 :: c70 :: c71 :: c72 :: c73 :: c74 :: c75 :: c76 :: c77 :: c78 :: c79 :: c80 :: c81 :: c82 :: c83 :: c84 :: c85 :: c86 :: c87 :: c88 :: c89 :: c90 :: c91 :: c92 :: c93 :: c94 :: c95 :: c96 :: c97 :: c98 :: c99 :: c100 :: c101 :: c102 :: c103 :: c104 :: c105 :: c106 :: c107 :: c108 :: c109 :: c110 :: c111 :: c112 :: c113 :: c114 :: c115 :: c116 :: c117 :: c118 :: c119 :: c120 :: c121 :: c122 :: c123 :: c124 :: c125 :: c126 :: []), []⟩ wx)) :
    (Code.loop body_wra).wp Try.prog Q ⟨List.toArray ((.pointer (some ⟨X, 0, none⟩)) :: (.int .i64 (k : Int)) :: c2 :: c3 :: c4 :: c5 :: c6 :: (.slice none 0 0) :: (.int .i64 0) :: c9 :: c10 :: c11 :: c12 :: c13 :: c14 :: c15 :: c16 :: c17 :: c18 :: c19 :: c20 :: c21 :: c22 :: c23 :: c24 :: c25 :: c26 :: c27 :: c28 :: c29 :: c30 :: c31 :: c32 :: c33 :: c34 :: c35 :: c36 :: c37 :: c38 :: c39 :: c40 :: c41 :: c42 :: c43 :: c44 :: c45 :: c46 :: c47 :: c48 :: c49 :: c50 :: c51 :: c52 :: c53 :: c54 :: c55 :: c56 :: c57 :: c58 :: c59 :: c60 :: c61 :: c62 :: c63 :: c64 :: c65 :: c66 :: c67 :: c68 :: c69 :: c70 :: c71 :: c72 :: c73 :: c74 :: c75 :: c76 :: c77 :: c78 :: c79 :: c80 :: c81 :: c82 :: c83 :: c84 :: c85 :: c86 :: c87 :: c88 :: c89 :: c90 :: c91 :: c92 :: c93 :: c94 :: c95 :: c96 :: c97 :: c98 :: c99 :: c100 :: c101 :: c102 :: c103 :: c104 :: c105 :: c106 :: c107 :: c108 :: c109 :: c110 :: c111 :: c112 :: c113 :: c114 :: c115 :: c116 :: c117 :: c118 :: c119 :: c120 :: c121 :: c122 :: c123 :: c124 :: c125 :: c126 :: []), []⟩ w := by
  obtain ⟨ip, hip, hpz, hps, hpb⟩ := inf_of info_place
  have nI : (P.length : Int) ≤ 1024 := by have := hR.out.good.length; have := hR.out.len; omega
  have HL := Lib.hid hR.out.len
  have hA : 0 < P.length → ∃ g, A = some ⟨g, 0, none⟩ ∧ g < w.heap.size := by
    obtain ⟨A', c', he, _, _, h4⟩ := hR.out.form
    injection he with e1 _ _
    subst e1
    exact h4
  have HA := Lib.hid hA
  clear hA
  unfold body_wra
  conv => arg 2; arg 1; whnf
  go_loopw [7, 8] (fun o v wx => WraRel k S.L P w o v wx) (fun _ v _ => P.length - (intOf v).toNat)
  case atStart => exact ⟨0, rfl, Nat.zero_le _, OwnR.nil _ _ _ _, Below.refl _ _⟩
  case round =>
    obtain ⟨i, rfl, hi, own, bl⟩ := hrel
    have OW := Lib.hid own
    have BL := Lib.hid bl
    have HI := Lib.hid hi
    have HRr : Hid (RefIs wr X S F (.slice A P.length c) P) := Lib.hid (hR.out.other (Chg.of_below bl) fun k hk => by have := hR.out.fl k hk; omega)
    have cv : wr.cell? ⟨X, 0, none⟩ = some (.slice A P.length c) := by rw [HRr.out.blk.cell]; rfl
    clear own bl hi
    by_cases hlt : i < P.length
    · have hI : (i : Int) < P.length := by omega
      have hSL : i < S.L.length := by rw [← HL.out]; exact hlt
      obtain ⟨g, rfl, hg⟩ := HA.out (by omega)
      obtain ⟨pc, hpc⟩ : ∃ pc, pc = (P[i].p).plc := ⟨_, rfl⟩
      have c1 : wr.cell? ⟨g, i * 6, none⟩ = some (.int .i64 (pc : Int)) := by
        have h1 := HRr.out.cell (i := i) (j := 0) hlt (by decide)
        rw [Nat.add_zero] at h1
        rw [h1, hpc]
        rfl
      have hplc : (S.L[i]'hSL).plc = pc := by rw [HRr.out.at hlt, hpc]
      by_cases hk : (pc : Int) < k
      · have e1 : decide (pc < k) = true := decide_eq_true (by omega)
        have HI2 : Hid (i + 1 ≤ tw S.L k) := Lib.hid (tw_go hSL HI.out (by rw [hplc]; omega))
        obtain ⟨l, hl⟩ : ∃ l, l = P[i].cells := ⟨_, rfl⟩
        have LL : Hid (l.length = 6) := Lib.hid (by rw [hl]; rfl)
        have L1 : Hid (∀ u ∈ l, u.oneCell' = true) := Lib.hid (by rw [hl]; exact (HRr.out.ok _ (List.getElem_mem hlt)).one)
        have EG : Hid ((P.map PV.cells).getD i [] = l) := Lib.hid (by rw [List.getD, List.getElem?_map, List.getElem?_eq_getElem hlt, hl]; rfl)
        have HM : Hid (i < (P.map PV.cells).length) := Lib.hid (by rw [List.length_map]; exact hlt)
        have ET : Hid ((P.take i).map PV.cells ++ [l] = (P.take (i + 1)).map PV.cells) := Lib.hid (by
          rw [List.take_add_one, List.map_append, List.getElem?_eq_getElem hlt, hl]
          rfl)
        have HLT := Lib.hid hlt
        have EN : Hid (((P.take i).map PV.cells).length = i) := Lib.hid (by simp; omega)
        have NR : Hid (((P.take i).map PV.cells).length + 1 ≤ maxLen ∧ (((P.take i).map PV.cells).length + 1) * 64 ≤ 140737488355328) := Lib.hid (by rw [EN.out]; unfold maxLen; omega)
        clear hl hlt hk hpc hplc hSL
        go_wp2_with (first
          | (refine wpList_load_row_el rfl 40 _ rfl HRr.out.row HM.out rfl _ Try.underlying40 rfl (by rw [hip]; exact congrArg some hps) ?_
             rw [EG.out])
          | refine wpList_build_elR rfl 28 40 _ rfl ip _ 6 Try.underlying28 hip hpz hps (by decide) (by decide) l LL.out rfl ?_
          | (at_builtin
             refine wpList_append_elR _ l _ rfl _ _ _ rfl w.heap.size 40 ip _ 6 64 Try.underlying28 hip hpz hps hpb (by simp [Value.cells]) (by decide) _ _ rfl OW.out LL.out L1.out rfl NR.out.1 NR.out.2 BL.out.size ?_
             intro v5 w5 own5 nx5
             have OW5 : Hid (OwnR 6 w5 w.heap.size 40 v5 ((P.take (i + 1)).map PV.cells)) := Lib.hid (by rw [← ET.out]; exact own5)
             have T5 : Hid (Below w.heap.size w w5) := Lib.hid (BL.out.trans nx5.below)
             clear own5 nx5))
        have hlt := HLT.out
        refine ⟨⟨i + 1, by go_num, HI2.out, OW5.out, T5.out⟩, by simp [intOf]; omega⟩
      · have e1 : decide (pc < k) = false := decide_eq_false (by omega)
        have E : Hid (i = tw S.L k) := Lib.hid (tw_stop HI.out fun _ => by rw [hplc]; omega)
        clear hlt hk hpc hplc hSL
        go_wp2_with (fail)
        have hQ := HQ.out
        rw [← E.out] at hQ
        exact hQ _ _ _ _ _ _ _ _ _ _ _ _ _ _ _ _ _ _ _ _ _ _ _ _ _ _ _ _ _ _ _ _ _ OW BL
    · have E : Hid (i = tw S.L k) := Lib.hid (tw_stop HI.out fun h => absurd h (by rw [← HL.out]; exact hlt))
      have e2 : decide (i < P.length) = false := decide_eq_false (by omega)
      clear hlt
      go_wp2_with (fail)
      have hQ := HQ.out
      rw [← E.out] at hQ
      exact hQ _ _ _ _ _ _ _ _ _ _ _ _ _ _ _ _ _ _ _ _ _ _ _ _ _ _ _ _ _ _ _ _ _ OW BL
end Go.Proofs.Ytkgbfghlonennaa
