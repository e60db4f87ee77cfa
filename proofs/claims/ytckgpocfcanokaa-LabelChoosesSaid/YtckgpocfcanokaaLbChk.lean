/- The fifteenth reference's Check. No condition of its own. -/
import Derived.Test.YtckgpocfcanokaaLbRow
import Derived.Test.YtckgpocfcanokaaLbWrd
import Derived.BigQuiet
import Derived.Deep.Cut
namespace Go.Proofs.Ytckgpocfcanokaa
open Go.RowKit

theorem pairwise_rise {l : List Qu} (h : ∀ (i : Nat) (p q : Qu), l[i]? = some p → l[i + 1]? = some q → Op.bytesLess p.n.toList q.n.toList = true) : l.Pairwise fun a b => Op.bytesLess a.n.toList b.n.toList = true := by
  rw [List.pairwise_iff_getElem]
  intro i j hi hj hij
  obtain ⟨d, rfl⟩ : ∃ d, j = i + 1 + d := ⟨j - (i + 1), by omega⟩
  clear hij
  induction d with
  | zero => exact h i _ _ (List.getElem?_eq_getElem hi) (List.getElem?_eq_getElem hj)
  | succ d ih => exact bl_trans (ih (by omega)) (h (i + 1 + d) _ _ (List.getElem?_eq_getElem (by omega)) (List.getElem?_eq_getElem hj))
/-- So far the labels are as told. -/
structure LckS (l : List Qu) (j : Nat) : Prop where
  may : ∀ (i : Nat) (q : Qu), i < j → l[i]? = some q → wordB q.n.toList = true ∧ wordB q.v.toList = true
  ord : ∀ (i : Nat) (p q : Qu), i + 1 < j → l[i]? = some p → l[i + 1]? = some q → Op.bytesLess p.n.toList q.n.toList = true
theorem LckS.first {l : List Qu} {p : Qu} (hp : l[0]? = some p) (hm : wordB p.n.toList = true ∧ wordB p.v.toList = true) : LckS l 1 :=
  ⟨fun i q hi hq => by
    obtain rfl : i = 0 := by omega
    rw [hp] at hq
    injection hq with hq
    rw [← hq]
    exact hm, fun i p q hi => by omega⟩
theorem LckS.next {l : List Qu} {k : Nat} {p q : Qu} (h : LckS l (k + 1)) (hq : l[k]? = some q) (hp : l[k + 1]? = some p) (hm : wordB p.n.toList = true ∧ wordB p.v.toList = true) (hk : Op.bytesLess q.n.toList p.n.toList = true) : LckS l (k + 1 + 1) :=
  ⟨fun i r hi hr => by
    by_cases e : i = k + 1
    · subst e
      rw [hp] at hr
      injection hr with hr
      rw [← hr]
      exact hm
    · exact h.may i r (by omega) hr, fun i a b hi ha hb => by
    by_cases e : i = k
    · subst e
      rw [hq] at ha
      rw [hp] at hb
      injection ha with ha
      injection hb with hb
      rw [← ha, ← hb]
      exact hk
    · exact h.ord i a b (by omega) ha hb⟩
theorem LckS.all {n : ByteArray} {l : List Qu} (h : LckS l l.length) (hn : wordB n.toList = true) (hl : l.length ≤ 8) (hg : ∀ q ∈ l, q.g = 0) : MayS ⟨n, l⟩ := by
  refine ⟨hn, fun q hq => ?_, hl, pairwise_rise fun i p q hp hq => h.ord i p q (List.getElem?_eq_some_iff.1 hq).1 hp hq⟩
  obtain ⟨i, hi, rfl⟩ := List.getElem_of_mem hq
  obtain ⟨h1, h2⟩ := h.may i _ hi (List.getElem?_eq_getElem hi)
  exact ⟨⟨h1, h2, .inl (hg _ hq)⟩, hg _ hq⟩
theorem not_mayN {n : ByteArray} {l : List Qu} {j : Nat} {q : Qu} (hq : l[j]? = some q) (h : wordB q.n.toList = false ∨ wordB q.v.toList = false) : ¬ MayS ⟨n, l⟩ := fun hm => by
  have h1 := (hm.q q (List.mem_of_getElem? hq)).1
  rcases h with h | h
  · rw [h1.n] at h
    cases h
  · rw [h1.v] at h
    cases h
theorem not_mayO {n : ByteArray} {l : List Qu} {k : Nat} {p q : Qu} (hq : l[k]? = some q) (hp : l[k + 1]? = some p) (h : Op.bytesLess q.n.toList p.n.toList = false) : ¬ MayS ⟨n, l⟩ := fun hm => by
  obtain ⟨a1, e1⟩ := List.getElem?_eq_some_iff.1 hq
  obtain ⟨a2, e2⟩ := List.getElem?_eq_some_iff.1 hp
  have h1 := List.pairwise_iff_getElem.1 hm.rise k (k + 1) a1 a2 (by omega)
  rw [e1, e2, h] at h1
  cases h1
theorem wordC (s : ByteArray) (b : Bool) (hb : wordB s.toList = b) (hm : s.size ≤ maxLen) (W : World) : Calls Try.prog 17 #[.string s] W fun e w' => e = .returned (.bool b) ∧ w' = W := by
  rw [← hb]
  exact refWord_any s W hm
noncomputable def body_lck : Code := (((Try.f8.body.map loopsOf).getD [])[0]?).getD .skip
set_option maxRecDepth 100000 in
set_option maxHeartbeats 4000000 in
theorem lck_loop (c0 c2 c4 c5 c6 c7 c8 c9 c10 c11 c12 c13 c14 c15 c16 c17 c18 c19 c20 c21 c22 c23 c24 c25 c26 c27 c28 c29 c30 c31 c32 c33 c34 c35 c36 c37 c38 c39 c40 c41 c42 c43 c44 c45 c46 c47 c48 c49 c50 c51 c52 c53 c54 c55 c56 c57 c58 : Value) (A : Option Addr) (c X : Nat) (n : ByteArray) (ls : List Qu) (w : World) (hx : Hid (Blk w X 24 [.string n, .slice A ls.length c])) (hr : Hid (RsLb w (.slice A ls.length c) ls)) (hn : Hid (ls.length ≤ 8)) {Q : Exit → Act → World → Prop}
    (HQ : Hid (∀ (u2 u14 u15 u16 u17 u18 u19 u20 u21 u22 u23 u24 u25 u26 u27 u28 u29 u30 u31 u32 u33 u34 u35 u36 u37 u38 u39 u40 u41 u42 u43 u44 u45 u46 u47 u48 u49 u50 u51 u52 u53 u54 u55 u56 u57 u58 y : Value) (m : Nat), Hid (LckS ls ls.length) → Q (.exit 0) ⟨List.toArray (c0 :: (.pointer (some ⟨X, 0, none⟩)) :: u2 :: y :: c4 :: c5 :: c6 :: c7 :: c8 :: c9 :: c10 :: c11 :: c12 :: c13 :: u14 :: u15 :: u16 :: u17 :: u18 :: u19 :: u20 :: u21 :: u22 :: u23 :: u24 :: u25 :: u26 :: u27 :: u28 :: u29 :: u30 :: u31 :: u32 :: u33 :: u34 :: u35 :: u36 :: u37 :: u38 :: u39 :: u40 :: u41 :: u42 :: u43 :: u44 :: u45 :: u46 :: u47 :: u48 :: u49 :: u50 :: u51 :: u52 :: u53 :: u54 :: u55 :: u56 :: u57 :: u58 :: []), []⟩ (w.drewN m)))
    (HE : Hid (∀ (u14 u15 u16 u17 u18 u19 u20 u21 u22 u23 u24 u25 u26 u27 u28 u29 u30 u31 u32 u33 u34 u35 u36 u37 u38 u39 u40 u41 u42 u43 u44 u45 u46 u47 u48 u49 u50 u51 u52 u53 u54 u55 u56 u57 u58 y : Value) (m : Nat), Hid (¬ MayS ⟨n, ls⟩) → Q .ret ⟨List.toArray (c0 :: (.pointer (some ⟨X, 0, none⟩)) :: (.bool false) :: y :: c4 :: c5 :: c6 :: c7 :: c8 :: c9 :: c10 :: c11 :: c12 :: c13 :: u14 :: u15 :: u16 :: u17 :: u18 :: u19 :: u20 :: u21 :: u22 :: u23 :: u24 :: u25 :: u26 :: u27 :: u28 :: u29 :: u30 :: u31 :: u32 :: u33 :: u34 :: u35 :: u36 :: u37 :: u38 :: u39 :: u40 :: u41 :: u42 :: u43 :: u44 :: u45 :: u46 :: u47 :: u48 :: u49 :: u50 :: u51 :: u52 :: u53 :: u54 :: u55 :: u56 :: u57 :: u58 :: []), []⟩ (w.drewN m))) :
    (Code.loop body_lck).wp Try.prog Q ⟨List.toArray (c0 :: (.pointer (some ⟨X, 0, none⟩)) :: c2 :: (.int .i64 0) :: c4 :: c5 :: c6 :: c7 :: c8 :: c9 :: c10 :: c11 :: c12 :: c13 :: c14 :: c15 :: c16 :: c17 :: c18 :: c19 :: c20 :: c21 :: c22 :: c23 :: c24 :: c25 :: c26 :: c27 :: c28 :: c29 :: c30 :: c31 :: c32 :: c33 :: c34 :: c35 :: c36 :: c37 :: c38 :: c39 :: c40 :: c41 :: c42 :: c43 :: c44 :: c45 :: c46 :: c47 :: c48 :: c49 :: c50 :: c51 :: c52 :: c53 :: c54 :: c55 :: c56 :: c57 :: c58 :: []), []⟩ w := by
  unfold body_lck
  conv => arg 2; arg 1; whnf
  go_loopw [3] (fun y wx => ∃ (j m : Nat), y = .int .i64 (j : Int) ∧ j ≤ ls.length ∧ LckS ls j ∧ wx = w.drewN m) (fun y _ => ls.length - (intOf y).toNat)
  case atStart => exact ⟨0, 0, rfl, Nat.zero_le _, ⟨fun i p h => by omega, fun i p q h => by omega⟩, rfl⟩
  case round =>
    obtain ⟨j, m, rfl, hj, hck, hwm⟩ := hrel
    have hl := hn.out
    have HCK := Lib.hid hck
    have HWM := Lib.hid hwm
    have hb : Blk wr X 24 [.string n, .slice A ls.length c] := hwm ▸ hx.out.drewN m
    have hrw : RsLb wr (.slice A ls.length c) ls := hwm ▸ hr.out.drewN m
    have b1 : wr.cell? ⟨X, 1, none⟩ = some (.slice A ls.length c) := by rw [hb.cell]; rfl
    have pI : (ls.length : Int) ≤ 8 := by omega
    by_cases hlt : j < ls.length
    · have jI : (j : Int) < ls.length := by omega
      have HLT := Lib.hid hlt
      obtain ⟨q, hq⟩ : ∃ q, ls[j]? = some q := ⟨_, List.getElem?_eq_getElem hlt⟩
      obtain ⟨g, o, rfl⟩ := hrw.addr hq
      obtain ⟨_, q0, q1⟩ := hrw.cells hq
      obtain ⟨k1, k2, _⟩ := hr.out.ok q (List.mem_of_getElem? hq)
      obtain ⟨s, g0, u⟩ := q
      simp only at q0 q1 k1 k2
      obtain ⟨b, hbn⟩ : ∃ b, wordB s.toList = b := ⟨_, rfl⟩
      obtain ⟨d, hdv⟩ : ∃ d, wordB u.toList = d := ⟨_, rfl⟩
      have HW1 := Lib.hid (wordC s b hbn k1)
      have HW2 := Lib.hid (wordC u d hdv k2)
      have HQJ := Lib.hid hq
      cases b with
      | false =>
        have HX : Hid (¬ MayS ⟨n, ls⟩) := Lib.hid (not_mayN hq (.inl hbn))
        clear hwm hlt hb hrw hl hj hck hq hbn hdv k1 k2 HW2
        go_wp2_with (fail)
        go_quiet (first | (go_at_call 17; with_reducible exact Calls.quiet_of_same (HW1.out _)))
        go_wp2_with (fail)
        have hw := HWM.out
        rw [hw, World.drewN_drewN]
        exact HE.out _ _ _ _ _ _ _ _ _ _ _ _ _ _ _ _ _ _ _ _ _ _ _ _ _ _ _ _ _ _ _ _ _ _ _ _ _ _ _ _ _ _ _ _ _ _ _ HX
      | true =>
        cases d with
        | false =>
          have HX : Hid (¬ MayS ⟨n, ls⟩) := Lib.hid (not_mayN hq (.inr hdv))
          clear hwm hlt hb hrw hl hj hck hq hbn hdv k1 k2
          go_wp2_with (fail)
          go_quiet (first | (go_at_call 17; with_reducible exact Calls.quiet_of_same (HW1.out _)) | (go_at_call 17; with_reducible exact Calls.quiet_of_same (HW2.out _)))
          go_wp2_with (fail)
          have hw := HWM.out
          rw [hw, World.drewN_drewN]
          exact HE.out _ _ _ _ _ _ _ _ _ _ _ _ _ _ _ _ _ _ _ _ _ _ _ _ _ _ _ _ _ _ _ _ _ _ _ _ _ _ _ _ _ _ _ _ _ _ _ HX
        | true =>
          have HMQ := Lib.hid (And.intro hbn hdv)
          by_cases hj0 : j = 0
          · subst hj0
            have HNX := Lib.hid (LckS.first hq ⟨hbn, hdv⟩)
            rw [Nat.zero_mul, Nat.add_zero] at q0 q1
            have j0 : (0 : Int) < ls.length := by omega
            clear hwm hlt hb hrw hl hj hck hq hbn hdv k1 k2 jI
            go_wp2_with (fail)
            go_quiet (first | (go_at_call 17; with_reducible exact Calls.quiet_of_same (HW1.out _)) | (go_at_call 17; with_reducible exact Calls.quiet_of_same (HW2.out _)))
            go_wp2_with (fail)
            refine ⟨⟨1, _, by go_num, HLT.out, HNX.out, by rw [HWM.out, World.drewN_drewN]⟩, by simp [intOf]; omega⟩
          · obtain ⟨k, hjk⟩ : ∃ k, j = k + 1 := ⟨j - 1, by omega⟩
            have jw : IntKind.i64.wrap ((j : Int) - 1) = (k : Int) := by
              rw [IntWalk.i64_in _ (by omega)]
              omega
            have kI : (k : Int) < ls.length := by omega
            have jp : (0 : Int) < (j : Int) := by omega
            have jp2 : 0 < j := by omega
            have jp3 : decide (0 < j) = true := decide_eq_true jp2
            have jp4 : decide ((0 : Int) < (j : Int)) = true := decide_eq_true jp
            obtain ⟨p, hp⟩ : ∃ p, ls[k]? = some p := ⟨_, List.getElem?_eq_getElem (by omega)⟩
            obtain ⟨_, r0, _⟩ := hrw.cells hp
            obtain ⟨s', g', u'⟩ := p
            simp only at r0
            have hq1 : ls[k + 1]? = some ⟨s, g0, u⟩ := by rw [← hjk]; exact hq
            have hck1 : LckS ls (k + 1) := by rw [← hjk]; exact hck
            obtain ⟨a, ha⟩ : ∃ a, Op.bytesLess s.toList s'.toList = a := ⟨_, rfl⟩
            obtain ⟨f, hf⟩ : ∃ f, (s.toList == s'.toList) = f := ⟨_, rfl⟩
            have HNX : Hid (a = false → f = false → LckS ls (j + 1)) := Lib.hid fun h1 h2 => by
              rw [hjk]
              refine LckS.next hck1 hp hq1 ⟨hbn, hdv⟩ (bl_tri (fun e => ?_) (by rw [ha]; exact h1))
              rw [h2, beq_eq_false_iff_ne] at hf
              exact hf e
            have HNO : Hid (a = true ∨ f = true → ¬ MayS ⟨n, ls⟩) := Lib.hid fun h => by
              refine not_mayO hp hq1 ?_
              rcases h with h | h
              · rw [h] at ha
                cases h3 : Op.bytesLess s'.toList s.toList with
                | false => rfl
                | true =>
                  have h4 := bl_trans ha h3
                  rw [bl_irrefl] at h4
                  cases h4
              · rw [h, beq_iff_eq] at hf
                rw [hf, bl_irrefl]
            clear hwm hlt hb hrw hl hj hck hq hbn hdv k1 k2 hj0 hjk hp hq1 hck1
            cases a with
            | true =>
              have HX := Lib.hid (HNO.out (.inl rfl))
              go_wp2_with (fail)
              go_quiet (first | (go_at_call 17; with_reducible exact Calls.quiet_of_same (HW1.out _)) | (go_at_call 17; with_reducible exact Calls.quiet_of_same (HW2.out _)))
              go_wp2_with (fail)
              have hw := HWM.out
              rw [hw, World.drewN_drewN]
              exact HE.out _ _ _ _ _ _ _ _ _ _ _ _ _ _ _ _ _ _ _ _ _ _ _ _ _ _ _ _ _ _ _ _ _ _ _ _ _ _ _ _ _ _ _ _ _ _ _ HX
            | false =>
              cases f with
              | true =>
                have HX := Lib.hid (HNO.out (.inr rfl))
                go_wp2_with (fail)
                go_quiet (first | (go_at_call 17; with_reducible exact Calls.quiet_of_same (HW1.out _)) | (go_at_call 17; with_reducible exact Calls.quiet_of_same (HW2.out _)))
                go_wp2_with (fail)
                have hw := HWM.out
                rw [hw, World.drewN_drewN]
                exact HE.out _ _ _ _ _ _ _ _ _ _ _ _ _ _ _ _ _ _ _ _ _ _ _ _ _ _ _ _ _ _ _ _ _ _ _ _ _ _ _ _ _ _ _ _ _ _ _ HX
              | false =>
                have HX := Lib.hid (HNX.out rfl rfl)
                go_wp2_with (fail)
                go_quiet (first | (go_at_call 17; with_reducible exact Calls.quiet_of_same (HW1.out _)) | (go_at_call 17; with_reducible exact Calls.quiet_of_same (HW2.out _)))
                go_wp2_with (fail)
                refine ⟨⟨j + 1, _, by go_num, HLT.out, HX.out, by rw [HWM.out, World.drewN_drewN]⟩, by simp [intOf]; omega⟩
    · have k1 : decide ((j : Int) < ls.length) = false := decide_eq_false (by omega)
      have k2 : decide (j < ls.length) = false := decide_eq_false hlt
      have e : j = ls.length := by omega
      have HF : Hid (LckS ls ls.length) := Lib.hid (e ▸ hck)
      clear e hj hl hb hrw hwm hlt hck
      go_wp2_with (fail)
      have hw := HWM.out
      rw [hw]
      exact HQ.out _ _ _ _ _ _ _ _ _ _ _ _ _ _ _ _ _ _ _ _ _ _ _ _ _ _ _ _ _ _ _ _ _ _ _ _ _ _ _ _ _ _ _ _ _ _ _ _ HF
set_option maxRecDepth 100000 in
set_option maxHeartbeats 4000000 in
theorem refCheckL_any (n : ByteArray) (v : Value) (ls : List Qu) (w : World) (h1 : RsLb w v ls) (hs : n.size ≤ maxLen) :
    Calls Try.prog 8 #[.agg #[.string n, v]] w fun e w' => ∃ b : Bool, e = .returned (.bool b) ∧ (b = true ↔ MayS ⟨n, ls⟩) ∧ Below w.heap.size w w' := by
  obtain ⟨A1, c1, rfl, hl1⟩ := h1.form
  unfold maxLen at hl1
  obtain ⟨W0, hW0⟩ : ∃ W : World, W = w.alloc (.cells #[.string n, .slice A1 ls.length c1] 24) := ⟨_, rfl⟩
  have D0 : Hid (Below w.heap.size w W0) := Lib.hid (by rw [hW0]; exact (Below.refl _ _).alloc (Nat.le_refl _) _)
  have X1 : Hid (Blk W0 w.heap.size 24 [.string n, .slice A1 ls.length c1]) := Lib.hid (by rw [hW0]; exact Blk.made w _ _)
  have R1 := Lib.hid (h1.below D0.out)
  have p0 : W0.cell? ⟨w.heap.size, 0, none⟩ = some (.string n) := by rw [X1.out.cell]; rfl
  have p1 : W0.cell? ⟨w.heap.size, 1, none⟩ = some (.slice A1 ls.length c1) := by rw [X1.out.cell]; rfl
  have HX : Hid (W0 = w.alloc (.cells #[.string n, .slice A1 ls.length c1] 24)) := Lib.hid hW0
  have HG : Hid (∀ q ∈ ls, q.g = 0) := Lib.hid fun q hq => (h1.ok q hq).2.2
  obtain ⟨b, hbn⟩ : ∃ b, wordB n.toList = b := ⟨_, rfl⟩
  have HW1 := Lib.hid (wordC n b hbn hs)
  clear h1 hW0 hs
  go_enter Try.func8, Try.ntmps8
  go_upto_region 1 with (fail)
  rw [← HX.out]
  clear HX
  go_wp2_with (fail)
  refine (HW1.out _).mono ?_
  rintro e w1 ⟨rfl, hw1⟩
  replace hw1 := hw1.symm
  subst hw1
  cases b with
  | false =>
    have HN : Hid (¬ MayS ⟨n, ls⟩) := Lib.hid fun h => by have := h.n; rw [hbn] at this; cases this
    clear hbn hl1
    go_wp2_with (fail)
    go_ret
    exact ⟨false, rfl, ⟨fun h => Bool.noConfusion h, fun h => absurd h HN.out⟩, D0.out⟩
  | true =>
    have HB := Lib.hid hbn
    by_cases h8 : 8 < ls.length
    · have k1 : decide ((8 : Int) < (ls.length : Int)) = true := decide_eq_true (by omega)
      have HN : Hid (¬ MayS ⟨n, ls⟩) := Lib.hid fun h => by have := h.few; simp only at this; omega
      clear hbn hl1 h8
      go_wp2_with (fail)
      go_ret
      exact ⟨false, rfl, ⟨fun h => Bool.noConfusion h, fun h => absurd h HN.out⟩, D0.out⟩
    · have k1 : decide ((8 : Int) < (ls.length : Int)) = false := decide_eq_false (by omega)
      have HL : Hid (ls.length ≤ 8) := Lib.hid (by omega)
      clear hbn hl1 h8
      go_wp2_with (fail)
      refine lck_loop _ _ _ _ _ _ _ _ _ _ _ _ _ _ _ _ _ _ _ _ _ _ _ _ _ _ _ _ _ _ _ _ _ _ _ _ _ _ _ _ _ _ _ _ _ _ _ _ _ _ _ _ _ _ _ _ _ A1 c1 w.heap.size n ls W0 X1 R1 HL (Lib.hid ?_) (Lib.hid ?_)
      · intro u2 u14 u15 u16 u17 u18 u19 u20 u21 u22 u23 u24 u25 u26 u27 u28 u29 u30 u31 u32 u33 u34 u35 u36 u37 u38 u39 u40 u41 u42 u43 u44 u45 u46 u47 u48 u49 u50 u51 u52 u53 u54 u55 u56 u57 u58 y m HF
        go_wp2_with (fail)
        go_ret
        exact ⟨true, rfl, ⟨fun _ => HF.out.all HB.out HL.out HG.out, fun _ => rfl⟩, below_drewN D0.out m⟩
      · intro u14 u15 u16 u17 u18 u19 u20 u21 u22 u23 u24 u25 u26 u27 u28 u29 u30 u31 u32 u33 u34 u35 u36 u37 u38 u39 u40 u41 u42 u43 u44 u45 u46 u47 u48 u49 u50 u51 u52 u53 u54 u55 u56 u57 u58 y m HN
        go_ret
        exact ⟨false, rfl, ⟨fun h => Bool.noConfusion h, fun h => absurd h HN.out⟩, below_drewN D0.out m⟩
end Go.Proofs.Ytckgpocfcanokaa
