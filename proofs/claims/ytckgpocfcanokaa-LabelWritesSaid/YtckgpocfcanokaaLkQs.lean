/- The developers' reader of questions. Condition: the text may be. -/
import Derived.Test.YtckgpocfcanokaaLkClo
import Derived.Test.YtckgpocfcanokaaLbCon
import Derived.Test.YtckgpocfcanokaaLbPart
import Derived.Test.YtckgpocfcanokaaHere
import Derived.Test.YtckgpocfcanokaaSrowB
import Derived.Test.YtckgpocfcanokaaRsPS
import Derived.Deep.Cut
import Derived.BigQuiet
namespace Go.Proofs.Ytckgpocfcanokaa
open Go.RowKit

theorem infQk : (Try.prog.info? 41).map (fun i => (i.zero, i.size, i.bytes)) = some (some (.agg #[.string ByteArray.empty, .int .i64 0, .string ByteArray.empty]), 3, 40) := by kernel_rfl
theorem size_qk : (Try.prog.info? 41).map (·.size) = some 3 := by kernel_rfl
theorem ownR_belK {n : Nat} {w w' : World} {base : Nat} {e : TypeId} {v : Value} {R : List (List Value)} (h : OwnR n w base e v R) (hb : Below w.heap.size w w') : OwnR n w' base e v R :=
  ⟨h.1, h.2.kept (row := none) ⟨hb.os, hb.tape, hb.output, hb.size, fun k hk _ => hb.block k hk⟩ (by
    cases v.ownBlock with
    | none => exact .inl rfl
    | some k => exact .inr fun e => by cases e)⟩
/-- The reader's variables under way. -/
structure QL (w0 w : World) (X Z S : Nat) (v : Value) (l : List Qu) (b : ByteArray) (g : Bool) : Prop where
  q : QV w0 w X Z b g
  sk : Blk w S 44 [(.func (.func 36) #[] #[.pointer (some ⟨X, 0, none⟩)])]
  own : OwnR 3 w (S + 1) 41 v (l.map quV)
  lt : X < S ∧ Z < S
  ok : ∀ q ∈ l, QOk q
theorem QL.on {w0 w w' : World} {X Z S : Nat} {v : Value} {l : List Qu} {b b' : ByteArray} {g g' : Bool} (h : QL w0 w X Z S v l b g) (hq : QV w0 w' X Z b' g') (hc : Chg (fun k => k = X ∨ k = Z) w w') : QL w0 w' X Z S v l b' g' := by
  have hl := h.lt
  exact ⟨hq, hc.blk h.sk (by omega), hc.ownR h.own fun k hk e => by have := (h.own.lt k hk).1; omega, h.lt, h.ok⟩
theorem QL.bel {w0 w w' : World} {X Z S : Nat} {v : Value} {l : List Qu} {b : ByteArray} {g : Bool} (h : QL w0 w X Z S v l b g) (hb : Below w.heap.size w w') : QL w0 w' X Z S v l b g :=
  ⟨⟨h.q.left.below hb h.q.left.lt, h.q.good.below hb h.q.good.lt, h.q.low.trans (hb.mono h.q.low.size), h.q.ge⟩, h.sk.below hb h.sk.lt, ownR_belK h.own hb, h.lt, h.ok⟩
theorem QL.app {w0 w w' : World} {X Z S : Nat} {v v' : Value} {l : List Qu} {b : ByteArray} {g : Bool} (h : QL w0 w X Z S v l b g) {q : Qu} (hq : QOk q) (hn : Next w w' (S + 1) v v') (ho : OwnR 3 w' (S + 1) 41 v' (l.map quV ++ [quV q])) : QL w0 w' X Z S v' (l ++ [q]) b g := by
  have hl := h.lt
  have hg := h.q.ge
  have hb := hn.below
  refine ⟨⟨h.q.left.below hb (by omega), h.q.good.below hb (by omega), h.q.low.trans (hb.mono (by omega)), hg⟩, h.sk.below hb (by omega), by rw [List.map_append]; exact ho, hl, fun p hp => ?_⟩
  rcases List.mem_append.1 hp with h1 | h1
  · exact h.ok p h1
  · rw [List.mem_singleton.1 h1]; exact hq
/-- What three words read is a question, or none. -/
theorem ask_link {b b1 b2 b3 x y : ByteArray} {n : Int} {k : Bool} (hx : x.toList = wdB b.toList) (h1 : b1.toList = bhB b.toList) (k1 : k = true → sgR b1.toList = some (n, b2.toList)) (k0 : k = false → sgR b1.toList = none ∧ b2 = b1 ∧ n = 0) (hy : y.toList = wdB b2.toList) (h3 : b3.toList = bhB b2.toList) {g : Bool}
    (hg : g = ((wordB (wdB b.toList) && k) && wordB (wdB b2.toList))) : (g = true → askR b.toList = some (x.toList, n, y.toList, b3.toList)) ∧ (g = false → askR b.toList = none) := by
  unfold askR
  cases hw : wordB (wdB b.toList) with
  | false =>
    rw [hw] at hg
    refine ⟨fun h => ?_, fun _ => ?_⟩
    · rw [h] at hg; cases hg
    · rw [if_neg Bool.false_ne_true]
  | true =>
    rw [if_pos rfl, ← h1]
    cases k with
    | false =>
      rw [(k0 rfl).1]
      refine ⟨fun h => ?_, fun _ => rfl⟩
      rw [h, Bool.and_false] at hg; cases hg
    | true =>
      rw [k1 rfl]
      simp only
      rw [hw] at hg
      cases hw2 : wordB (wdB b2.toList) with
      | false =>
        rw [hw2] at hg
        refine ⟨fun h => ?_, fun _ => ?_⟩
        · rw [h] at hg; cases hg
        · rw [if_neg Bool.false_ne_true]
      | true =>
        rw [hw2] at hg
        refine ⟨fun _ => ?_, fun h => ?_⟩
        · rw [if_pos rfl, hx, hy, h3]
        · rw [h] at hg; cases hg
theorem mark_pre {b : ByteArray} {c : UInt8} {p : ByteArray} (hp : p.toList = [c]) : (preB p b = true → b.toList = c :: (cutS b p).toList) ∧ (preB p b = false → ∀ t, b.toList ≠ c :: t) := by
  refine ⟨fun h => ?_, fun h t e => ?_⟩
  · have h1 := cutS_yes h
    rw [hp] at h1
    exact h1
  · unfold preB at h
    rw [hp, e] at h
    simp [List.isPrefixOf] at h
def lenS (v : Value) : Nat := match v with
  | .slice _ n _ => n
  | _ => 0
theorem bad_no {t body : List UInt8} (ht : t = 123 :: body) {l : List Qu} (h : ∀ m, (∀ q ∈ m, QOk q) → m ≠ [] → m.length ≤ 8 → bodyB m ≠ body) (hl : l.length ≤ 8) : RdQs t l false :=
  ⟨hl, fun h => (Bool.false_ne_true h).elim, fun _ m hm hne h8 e => by
    rw [ht] at e
    injection e with _ e
    exact h m hm hne h8 e⟩
noncomputable def body_lqs : Code := (((Try.f27.body.map loopsOf).getD [])[0]?).getD .skip
set_option maxRecDepth 100000 in
set_option maxHeartbeats 8000000 in
theorem lqs_loop (c0 c1 c10 c11 c12 c13 c14 c15 c16 c17 c18 c19 c20 c21 c22 c23 c24 c25 c26 c27 c28 c29 c30 c31 c32 c33 c34 c35 c36 c37 c38 c39 c40 c41 c42 c43 c44 c45 c46 c47 c48 c49 c50 : Value) (w0 : World) (X Z S : Nat) (t body : List UInt8) (v0 : Value) (b0 : ByteArray) (g0 : Bool) (w : World) (hb0 : Hid (b0.size ≤ maxLen)) (h0 : Hid (QL w0 w X Z S v0 [] b0 g0)) (hJ : Hid (g0 = true → t = 123 :: body ∧ Jn body [] b0.toList)) (hN : Hid (g0 = false → RdQs t [] false)) {Q : Exit → Act → World → Prop}
    (HQ : Hid (∀ (u2 u3 u10 u19 u20 u21 u22 u23 u24 u25 u26 u27 u28 u29 u30 u31 u32 u33 u34 u35 u36 u37 u38 u39 u40 u41 u42 u43 u44 v : Value) (w' : World) (l : List Qu) (b : ByteArray), Hid (QL w0 w' X Z S v l b false) → Hid (RdQs t l false) → Q (.exit 0) ⟨List.toArray (c0 :: c1 :: u2 :: u3 :: v :: (.pointer (some ⟨X, 0, none⟩)) :: (.pointer (some ⟨Z, 0, none⟩)) :: (.func (.func 35) #[] #[.pointer (some ⟨X, 0, none⟩), .pointer (some ⟨Z, 0, none⟩)]) :: (.pointer (some ⟨S, 0, none⟩)) :: (.func (.func 37) #[] #[.pointer (some ⟨S, 0, none⟩), .pointer (some ⟨Z, 0, none⟩)]) :: u10 :: c11 :: c12 :: c13 :: c14 :: c15 :: c16 :: c17 :: c18 :: u19 :: u20 :: u21 :: u22 :: u23 :: u24 :: u25 :: u26 :: u27 :: u28 :: u29 :: u30 :: u31 :: u32 :: u33 :: u34 :: u35 :: u36 :: u37 :: u38 :: u39 :: u40 :: u41 :: u42 :: u43 :: u44 :: c45 :: c46 :: c47 :: c48 :: c49 :: c50 :: []), []⟩ w'))
    (HB : Hid (∀ (u2 u3 u10 u19 u20 u21 u22 u23 u24 u25 u26 u27 u28 u29 u30 u31 u32 u33 u34 u35 u36 u37 u38 u39 u40 u41 u42 u43 u44 v : Value) (w' : World) (l : List Qu) (b : ByteArray) (g : Bool), Hid (QL w0 w' X Z S v l b true) → Hid (RdQs t l g) → Hid (g = b.toList.isEmpty) → Q (.exit 0) ⟨List.toArray (c0 :: c1 :: u2 :: u3 :: v :: (.pointer (some ⟨X, 0, none⟩)) :: (.pointer (some ⟨Z, 0, none⟩)) :: (.func (.func 35) #[] #[.pointer (some ⟨X, 0, none⟩), .pointer (some ⟨Z, 0, none⟩)]) :: (.pointer (some ⟨S, 0, none⟩)) :: (.func (.func 37) #[] #[.pointer (some ⟨S, 0, none⟩), .pointer (some ⟨Z, 0, none⟩)]) :: u10 :: c11 :: c12 :: c13 :: c14 :: c15 :: c16 :: c17 :: c18 :: u19 :: u20 :: u21 :: u22 :: u23 :: u24 :: u25 :: u26 :: u27 :: u28 :: u29 :: u30 :: u31 :: u32 :: u33 :: u34 :: u35 :: u36 :: u37 :: u38 :: u39 :: u40 :: u41 :: u42 :: u43 :: u44 :: c45 :: c46 :: c47 :: c48 :: c49 :: c50 :: []), []⟩ w'))
    (HE : Hid (∀ (u10 u19 u20 u21 u22 u23 u24 u25 u26 u27 u28 u29 u30 u31 u32 u33 u34 u35 u36 u37 u38 u39 u40 u41 u42 u43 u44 v : Value) (w' : World) (l : List Qu) (b : ByteArray) (g : Bool), Hid (QL w0 w' X Z S v l b g) → Hid (RdQs t l false) → Q .ret ⟨List.toArray (c0 :: c1 :: v :: (.bool false) :: v :: (.pointer (some ⟨X, 0, none⟩)) :: (.pointer (some ⟨Z, 0, none⟩)) :: (.func (.func 35) #[] #[.pointer (some ⟨X, 0, none⟩), .pointer (some ⟨Z, 0, none⟩)]) :: (.pointer (some ⟨S, 0, none⟩)) :: (.func (.func 37) #[] #[.pointer (some ⟨S, 0, none⟩), .pointer (some ⟨Z, 0, none⟩)]) :: u10 :: c11 :: c12 :: c13 :: c14 :: c15 :: c16 :: c17 :: c18 :: u19 :: u20 :: u21 :: u22 :: u23 :: u24 :: u25 :: u26 :: u27 :: u28 :: u29 :: u30 :: u31 :: u32 :: u33 :: u34 :: u35 :: u36 :: u37 :: u38 :: u39 :: u40 :: u41 :: u42 :: u43 :: u44 :: c45 :: c46 :: c47 :: c48 :: c49 :: c50 :: []), []⟩ w')) :
    (Code.loop body_lqs).wp Try.prog Q ⟨List.toArray (c0 :: c1 :: (.slice none 0 0) :: (.bool false) :: v0 :: (.pointer (some ⟨X, 0, none⟩)) :: (.pointer (some ⟨Z, 0, none⟩)) :: (.func (.func 35) #[] #[.pointer (some ⟨X, 0, none⟩), .pointer (some ⟨Z, 0, none⟩)]) :: (.pointer (some ⟨S, 0, none⟩)) :: (.func (.func 37) #[] #[.pointer (some ⟨S, 0, none⟩), .pointer (some ⟨Z, 0, none⟩)]) :: c10 :: c11 :: c12 :: c13 :: c14 :: c15 :: c16 :: c17 :: c18 :: c19 :: c20 :: c21 :: c22 :: c23 :: c24 :: c25 :: c26 :: c27 :: c28 :: c29 :: c30 :: c31 :: c32 :: c33 :: c34 :: c35 :: c36 :: c37 :: c38 :: c39 :: c40 :: c41 :: c42 :: c43 :: c44 :: c45 :: c46 :: c47 :: c48 :: c49 :: c50 :: []), []⟩ w := by
  obtain ⟨iqu, hiq, hiqz, hiqs, hiqb⟩ := inf_of infQk
  unfold body_lqs
  conv => arg 2; arg 1; whnf
  go_loopw [4] (fun v wx => ∃ (l : List Qu) (b : ByteArray) (g : Bool), l.length ≤ 8 ∧ lenS v = l.length ∧ b.size ≤ maxLen ∧ QL w0 wx X Z S v l b g ∧ (g = true → t = 123 :: body ∧ Jn body l b.toList) ∧ (g = false → RdQs t l false)) (fun v _ => 8 - lenS v)
  case atStart => exact ⟨[], b0, g0, Nat.zero_le _, by
    obtain ⟨A, c, e, _⟩ := h0.out.own.form
    rw [e]; rfl, hb0.out, h0.out, hJ.out, hN.out⟩
  case round =>
    obtain ⟨l, b, g, hl8, hlen, hbm, hQL, hj, hn⟩ := hrel
    have HL := Lib.hid hQL
    have HL8 := Lib.hid hl8
    have HLN := Lib.hid hlen
    have HBM := Lib.hid hbm
    have HJ := Lib.hid hj
    have HN := Lib.hid hn
    have c0 : wr.cell? ⟨Z, 0, none⟩ = some (.bool g) := hQL.q.good.cell 0
    clear hQL hl8 hlen hbm hj hn
    cases g with
    | false =>
      have HNF := Lib.hid (HN.out rfl)
      go_wp2_with (fail)
      exact HQ.out _ _ _ _ _ _ _ _ _ _ _ _ _ _ _ _ _ _ _ _ _ _ _ _ _ _ _ _ _ _ _ l b HL HNF
    | true =>
      have HJT := Lib.hid (HJ.out rfl)
      clear HJ HN
      have C1 := Lib.hid (qword_any w0 wr X Z b true HL.out.q HBM.out)
      go_wp2_with (fail)
      refine C1.out.mono ?_
      rintro e w1 ⟨x, b1, rfl, hx, hb1, hbs1, hxs, hq1, hc1⟩
      rw [Bool.true_and] at hq1
      obtain ⟨g1, hg1⟩ : ∃ g, g = wordB (wdB b.toList) := ⟨_, rfl⟩
      rw [← hg1] at hq1
      have L1 := Lib.hid (HL.out.on hq1 hc1)
      have HX := Lib.hid hx
      have HB1 := Lib.hid hb1
      have HS1 := Lib.hid (Nat.le_trans hbs1 HBM.out)
      have HG1 := Lib.hid hg1
      clear hq1 hc1 hx hb1 hbs1 hxs C1 c0 hg1
      have C2 := Lib.hid (qsign_any w0 w1 X Z S b1 g1 L1.out.q L1.out.sk (Nat.ne_of_gt L1.out.lt.1) (Nat.ne_of_gt L1.out.lt.2))
      go_wp2_with (fail)
      refine C2.out.mono ?_
      rintro e w2 ⟨n, b2, k, rfl, hk1, hk0, hbs2, hq2, hc2⟩
      obtain ⟨g2, hg2⟩ : ∃ g, g = (g1 && k) := ⟨_, rfl⟩
      rw [← hg2] at hq2
      have L2 := Lib.hid (L1.out.on hq2 hc2)
      have HK1 := Lib.hid hk1
      have HK0 := Lib.hid hk0
      have HS2 := Lib.hid (Nat.le_trans hbs2 HS1.out)
      have HG2 := Lib.hid hg2
      clear hq2 hc2 hk1 hk0 hbs2 C2 hg2
      have C3 := Lib.hid (qword_any w0 w2 X Z b2 g2 L2.out.q HS2.out)
      go_wp2_with (fail)
      refine C3.out.mono ?_
      rintro e w3 ⟨y, b3, rfl, hy, hb3, hbs3, hys, hq3, hc3⟩
      obtain ⟨g3, hg3⟩ : ∃ g, g = (g2 && wordB (wdB b2.toList)) := ⟨_, rfl⟩
      rw [← hg3] at hq3
      have L3 := Lib.hid (L2.out.on hq3 hc3)
      have HS3 := Lib.hid (Nat.le_trans hbs3 HS2.out)
      have HA := Lib.hid (ask_link HX.out HB1.out HK1.out HK0.out hy hb3 (g := g3) (by rw [hg3, HG2.out, HG1.out]))
      clear hq3 hc3 hy hb3 hbs3 hys C3 hg3 HX HB1 HK1 HK0 HG2 HG1
      go_upto_region 8 with (fail)
      obtain ⟨D, hD⟩ : ∃ D, D = w3.heap.size := ⟨_, rfl⟩
      obtain ⟨w4, hw4⟩ : ∃ W, W = w3.alloc (.cells #[.string x, .int .i64 n, .string y] 41) := ⟨_, rfl⟩
      have L4 : Hid (QL w0 w4 X Z S u4 l b3 g3) := Lib.hid (L3.out.bel (by rw [hw4]; exact (Below.refl _ _).alloc (Nat.le_refl _) _))
      have KD : Hid (Blk w4 D 41 [.string x, .int .i64 n, .string y]) := Lib.hid (by rw [hw4, hD]; exact Blk.made w3 _ _)
      rw [← hw4, ← hD]
      clear hw4 hD L1 L2 L3
      have c0 : w4.cell? ⟨Z, 0, none⟩ = some (.bool g3) := L4.out.q.good.cell 0
      obtain ⟨A, c, hv, _⟩ := L4.out.own.form
      rw [List.length_map] at hv
      subst hv
      cases g3 with
      | false =>
        have HF : Hid (RdQs t l false) := Lib.hid (bad_no HJT.out.1 (fun m hm hne _ => HJT.out.2.bad (HA.out.2 rfl) m hm hne) HL8.out)
        go_wp2_with (fail)
        exact HE.out _ _ _ _ _ _ _ _ _ _ _ _ _ _ _ _ _ _ _ _ _ _ _ _ _ _ _ _ _ l b3 false L4 HF
      | true =>
        have HAS := Lib.hid (HA.out.1 rfl)
        clear HA
        by_cases h8 : l.length = 8
        · have k8 : ((l.length : Int) == 8) = true := by rw [beq_iff_eq]; omega
          have HF : Hid (RdQs t l false) := Lib.hid (bad_no HJT.out.1 (fun m hm hne h => HJT.out.2.many (by omega) m hm hne h) HL8.out)
          clear h8
          go_wp2_with (fail)
          exact HE.out _ _ _ _ _ _ _ _ _ _ _ _ _ _ _ _ _ _ _ _ _ _ _ _ _ _ _ _ _ l b3 true L4 HF
        · have k8 : ((l.length : Int) == 8) = false := by rw [beq_eq_false_iff_ne]; omega
          have HL7 : Hid (l.length ≤ 7) := Lib.hid (by have := HL8.out; omega)
          have HQK : Hid (QOk ⟨x, n, y⟩) := Lib.hid (by
            obtain ⟨_, a1, a2, a3⟩ := ask_is HAS.out
            exact ⟨a1, a2, a3⟩)
          have HM1 : Hid ((l.map quV).length + 1 ≤ maxLen) := Lib.hid (by rw [List.length_map]; have := HL7.out; unfold maxLen; omega)
          have HM2 : Hid (((l.map quV).length + 1) * 40 ≤ 140737488355328) := Lib.hid (by rw [List.length_map]; have := HL7.out; omega)
          have HSW : Hid (S + 1 ≤ w4.heap.size) := Lib.hid L4.out.sk.lt
          clear h8
          have d0 : w4.cell? ⟨D, 0, none⟩ = some (.string x) := KD.out.cell 0
          have d1 : w4.cell? ⟨D, 1, none⟩ = some (.int .i64 n) := KD.out.cell 1
          have d2 : w4.cell? ⟨D, 2, none⟩ = some (.string y) := KD.out.cell 2
          go_upto_region 12 with ((with_reducible refine here_apd ?_); (refine wpList_append_elR _ [.string x, .int .i64 n, .string y] 41 rfl (.tmp 35) (.tmp 37) _ rfl (S + 1) 41 iqu _ 3 40 Try.underlying26 hiq hiqz hiqs hiqb rfl (by decide) _ _ rfl L4.out.own rfl (by intro u hu; simp only [List.mem_cons, List.not_mem_nil, or_false] at hu; rcases hu with rfl | rfl | rfl <;> rfl) rfl HM1.out HM2.out HSW.out ?_); intro v5 w5 own5 nx5; (have L5 := Lib.hid (L4.out.app HQK.out nx5 own5)); clear own5 nx5; go_frame)
          obtain ⟨A5, n5, hv5, _⟩ := L5.out.own.form
          rw [List.length_map] at hv5
          subst hv5
          obtain ⟨l5, hl5⟩ : ∃ m, m = l ++ [⟨x, n, y⟩] := ⟨_, rfl⟩
          have HL5 : Hid (l5.length = l.length + 1) := Lib.hid (by rw [hl5, List.length_append]; rfl)
          have HLE := Lib.hid hl5
          rw [← hl5] at L5 ⊢
          clear hl5 c0 d0 d1 d2 L4 KD HM1 HM2 HSW HQK
          have s0 : w5.cell? ⟨S, 0, none⟩ = some (.func (.func 36) #[] #[.pointer (some ⟨X, 0, none⟩)]) := L5.out.sk.cell 0
          have C4 := Lib.hid (qskip_any w0 w5 X Z b3 true ⟨#[44]⟩ L5.out.q)
          have MK := Lib.hid (mark_pre (b := b3) (c := 44) (p := ⟨#[44]⟩) (by rw [ByteArray.toList_eq]))
          have HB4 : Hid ((cutS b3 ⟨#[44]⟩).size ≤ maxLen) := Lib.hid (Nat.le_trans (cutS_size _ _) HS3.out)
          have HC4 : Hid (preB ⟨#[44]⟩ b3 = false → cutS b3 ⟨#[44]⟩ = b3) := Lib.hid cutS_no
          obtain ⟨pk, hpk⟩ : ∃ p, p = preB ⟨#[44]⟩ b3 := ⟨_, rfl⟩
          obtain ⟨b4, hb4⟩ : ∃ b, b = cutS b3 ⟨#[44]⟩ := ⟨_, rfl⟩
          rw [← hpk, ← hb4] at C4 MK HC4
          rw [← hb4] at HB4
          clear hpk hb4
          go_wp2_with (fail)
          refine C4.out.mono ?_
          rintro e w6 ⟨rfl, q6, k6⟩
          have L6 := Lib.hid (L5.out.on q6 k6)
          clear q6 k6 C4 s0
          cases pk with
          | true =>
            have HJ6 : Hid (Jn body l5 b4.toList) := Lib.hid (by
              rw [HLE.out]
              exact HJT.out.2.next (q := ⟨x, n, y⟩) (by rw [← MK.out.1 rfl]; exact HAS.out))
            go_wp2_with (fail)
            have h7 := HL7.out
            have h5 := HL5.out
            refine ⟨⟨l5, b4, true, by omega, rfl, HB4.out, L6.out, fun _ => ⟨HJT.out.1, HJ6.out⟩, fun h => (Bool.false_ne_true h.symm).elim⟩, by simp only [lenS]; omega⟩
          | false =>
            have e := HC4.out rfl
            subst e
            have s0 : w6.cell? ⟨S, 0, none⟩ = some (.func (.func 36) #[] #[.pointer (some ⟨X, 0, none⟩)]) := L6.out.sk.cell 0
            have C5 := Lib.hid (qskip_any w0 w6 X Z b4 true ⟨#[125]⟩ L6.out.q)
            have MK2 := Lib.hid (mark_pre (b := b4) (c := 125) (p := ⟨#[125]⟩) (by rw [ByteArray.toList_eq]))
            obtain ⟨pk, hpk⟩ : ∃ p, p = preB ⟨#[125]⟩ b4 := ⟨_, rfl⟩
            have HC5 : Hid (pk = false → cutS b4 ⟨#[125]⟩ = b4) := Lib.hid (by rw [hpk]; exact cutS_no)
            obtain ⟨b5, hb5⟩ : ∃ b, b = cutS b4 ⟨#[125]⟩ := ⟨_, rfl⟩
            rw [← hpk, ← hb5] at C5 MK2
            rw [← hb5] at HC5
            clear hpk hb5
            go_wp2_with (fail)
            refine C5.out.mono ?_
            rintro e w7 ⟨rfl, q7, k7⟩
            have L7 := Lib.hid (L6.out.on q7 k7)
            clear q7 k7 C5 s0
            cases pk with
            | true =>
              have HR : Hid (RdQs t l5 b5.toList.isEmpty) := Lib.hid (by
                obtain ⟨a1, a2⟩ := HJT.out.2.done (q := ⟨x, n, y⟩) (r := b5.toList) (by rw [← MK2.out.1 rfl]; exact HAS.out)
                rw [← HLE.out] at a1 a2
                have h7 := HL7.out
                have h5 := HL5.out
                refine ⟨by omega, fun h => ?_, fun h m hm hne _ e => ?_⟩
                · obtain ⟨h1, h2⟩ := (a2 l5 a1).2 ⟨List.isEmpty_iff.1 h, rfl⟩
                  exact ⟨h1, a1, by rw [h2]; exact HJT.out.1.symm⟩
                · rw [HJT.out.1] at e
                  injection e with _ e
                  rw [((a2 m hm).1 ⟨hne, e⟩).1] at h
                  exact (Bool.false_ne_true h.symm).elim)
              go_wp2_with (fail)
              exact HB.out _ _ _ _ _ _ _ _ _ _ _ _ _ _ _ _ _ _ _ _ _ _ _ _ _ _ _ _ _ _ _ l5 b5 _ L7 HR (Lib.hid rfl)
            | false =>
              have e := HC5.out rfl
              subst e
              have c0 : w7.cell? ⟨Z, 0, none⟩ = some (.bool true) := L7.out.q.good.cell 0
              have f0 : w7.frozen? ⟨Z, 0, none⟩ = false := L7.out.q.good.free 0
              have HR : Hid (RdQs t l5 false) := Lib.hid (bad_no HJT.out.1 (fun m hm hne _ => HJT.out.2.odd HAS.out (MK.out.2 trivial) (MK2.out.2 rfl) m hm hne) (by have h7 := HL7.out; have h5 := HL5.out; omega))
              have L8 : Hid (QL w0 (w7.setCell ⟨Z, 0, none⟩ (.bool false)) X Z S (.slice A5 l5.length n5) l5 b5 false) := Lib.hid (L7.out.on (L7.out.q.setZ false) (Chg.setCell _ w7 Z 0 _ (.inr rfl)))
              go_wp2_with (fail)
              have h7 := HL7.out
              have h5 := HL5.out
              refine ⟨⟨l5, b5, false, by omega, rfl, HB4.out, L8.out, fun h => (Bool.false_ne_true h).elim, fun _ => HR.out⟩, by simp only [lenS]; omega⟩
end Go.Proofs.Ytckgpocfcanokaa
