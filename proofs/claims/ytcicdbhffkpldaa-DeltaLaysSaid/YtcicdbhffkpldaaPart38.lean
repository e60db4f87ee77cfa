/- Part 38 of the words that the laws share: DlRck. No condition of its own: each theorem says its own. -/
import Derived.Test.YtcicdbhffkpldaaPart25
import Derived.Test.YtcicdbhffkpldaaPart36

/- The fourteenth reference's Check. Conditions: a row of pieces, at most 1000, their series at most 1000 bytes. -/
namespace Go.Proofs.Ytcicdbhffkpldaa
open Go.RowKit

theorem pairwise_adj {l : List Pc} (h : ∀ i (h1 : i + 1 < l.length), keyLt l[i] l[i + 1]) : l.Pairwise keyLt := by
  rw [List.pairwise_iff_getElem]
  intro i j hi hj hij
  obtain ⟨d, rfl⟩ : ∃ d, j = i + 1 + d := ⟨j - (i + 1), by omega⟩
  clear hij
  induction d with
  | zero => exact h i hj
  | succ d ih => exact keyLt_trans (ih (by omega)) (h (i + 1 + d) hj)
theorem check_no {l : List Pc} (hb : ¬ (256 < l.length ∨ 4096 < roomD l)) (h : ¬ ((∀ p ∈ l, p.may) ∧ l.Pairwise keyLt)) : checkD l = 1 := by
  unfold checkD
  rw [if_neg hb, if_neg h]
/-- So far they may be laid. -/
structure RckS (l : List Pc) (j : Nat) : Prop where
  may : ∀ i p, i < j → l[i]? = some p → p.may
  ord : ∀ i p q, i + 1 < j → l[i]? = some p → l[i + 1]? = some q → keyLt p q
theorem RckS.all {l : List Pc} (h : RckS l l.length) (hb : ¬ (256 < l.length ∨ 4096 < roomD l)) : checkD l = 0 := by
  refine check_ok.2 ⟨fun p hp => ?_, pairwise_adj fun i h1 => h.ord i _ _ h1 (List.getElem?_eq_getElem _) (List.getElem?_eq_getElem _), by omega, by omega⟩
  obtain ⟨i, hi, rfl⟩ := List.getElem_of_mem hp
  exact h.may i _ hi (List.getElem?_eq_getElem hi)
theorem RckS.first {l : List Pc} {p : Pc} (hp : l[0]? = some p) (hm : p.may) : RckS l 1 :=
  ⟨fun i q hi hq => by
    obtain rfl : i = 0 := by omega
    rw [hp] at hq
    injection hq with hq
    rw [← hq]
    exact hm, fun i p q hi => by omega⟩
theorem RckS.next {l : List Pc} {k : Nat} {p q : Pc} (h : RckS l (k + 1)) (hq : l[k]? = some q) (hp : l[k + 1]? = some p) (hm : p.may) (hk : keyLt q p) : RckS l (k + 1 + 1) :=
  ⟨fun i r hi hr => by
    by_cases e : i = k + 1
    · subst e
      rw [hp] at hr
      injection hr with hr
      rw [← hr]
      exact hm
    · exact h.may i r (by omega) hr, fun i a b hi ha hb => by
    by_cases e : i = k
    · subst e
      rw [hq] at ha
      rw [hp] at hb
      injection ha with ha
      injection hb with hb
      rw [← ha, ← hb]
      exact hk
    · exact h.ord i a b (by omega) ha hb⟩
theorem not_may {l : List Pc} {j : Nat} {p : Pc} (hp : l[j]? = some p) (hm : ¬ p.may) : ¬ ((∀ p ∈ l, p.may) ∧ l.Pairwise keyLt) := fun h => hm (h.1 p (List.mem_of_getElem? hp))
theorem not_ord {l : List Pc} {k : Nat} {p q : Pc} (hq : l[k]? = some q) (hp : l[k + 1]? = some p) (hk : ¬ keyLt q p) : ¬ ((∀ p ∈ l, p.may) ∧ l.Pairwise keyLt) := fun h => by
  obtain ⟨a1, e1⟩ := List.getElem?_eq_some_iff.1 hq
  obtain ⟨a2, e2⟩ := List.getElem?_eq_some_iff.1 hp
  exact hk (by rw [← e1, ← e2]; exact List.pairwise_iff_getElem.1 h.2 k (k + 1) a1 a2 (by omega))
noncomputable def body_rck : Code := (((Try.f9.body.map loopsOf).getD [])[0]?).getD .skip
set_option maxRecDepth 100000 in
set_option maxHeartbeats 4000000 in
theorem rck_loop (c1 c2 c4 c5 c6 c7 c8 c9 c10 c11 c12 c13 c14 c15 c16 c17 c18 c19 c20 c21 c22 c23 c24 c25 c26 c27 c28 c29 c30 c31 c32 c33 c34 c35 c36 c37 c38 c39 c40 c41 c42 c43 c44 c45 c46 c47 c48 c49 c50 c51 c52 c53 c54 c55 c56 c57 c58 c59 c60 c61 c62 c63 c64 c65 c66 c67 : Value) (w0 : World) (A : Option Addr) (c : Nat) (l : List Pc) (w : World) (h0 : Hid (RsP w0 (.slice A l.length c) l)) (hn : Hid (l.length ≤ 1000)) (hb : Hid (Below w0.heap.size w0 w)) {Q : Exit → Act → World → Prop}
    (HQ : Hid (∀ (u2 u12 u13 u14 u15 u16 u17 u18 u19 u20 u21 u22 u23 u24 u25 u26 u27 u28 u29 u30 u31 u32 u33 u34 u35 u36 u37 u38 u39 u40 u41 u42 u43 u44 u45 u46 u47 u48 u49 u50 u51 u52 u53 u54 u55 u56 u57 u58 u59 u60 u61 u62 u63 u64 u65 u66 u67 y : Value) (w' : World), Hid (RckS l l.length) → Hid (Below w0.heap.size w0 w') → Q (.exit 0) ⟨List.toArray ((.slice A l.length c) :: c1 :: u2 :: y :: c4 :: c5 :: c6 :: c7 :: c8 :: c9 :: c10 :: c11 :: u12 :: u13 :: u14 :: u15 :: u16 :: u17 :: u18 :: u19 :: u20 :: u21 :: u22 :: u23 :: u24 :: u25 :: u26 :: u27 :: u28 :: u29 :: u30 :: u31 :: u32 :: u33 :: u34 :: u35 :: u36 :: u37 :: u38 :: u39 :: u40 :: u41 :: u42 :: u43 :: u44 :: u45 :: u46 :: u47 :: u48 :: u49 :: u50 :: u51 :: u52 :: u53 :: u54 :: u55 :: u56 :: u57 :: u58 :: u59 :: u60 :: u61 :: u62 :: u63 :: u64 :: u65 :: u66 :: u67 :: []), []⟩ w'))
    (HE : Hid (∀ (u12 u13 u14 u15 u16 u17 u18 u19 u20 u21 u22 u23 u24 u25 u26 u27 u28 u29 u30 u31 u32 u33 u34 u35 u36 u37 u38 u39 u40 u41 u42 u43 u44 u45 u46 u47 u48 u49 u50 u51 u52 u53 u54 u55 u56 u57 u58 u59 u60 u61 u62 u63 u64 u65 u66 u67 y : Value) (w' : World), Hid (¬ ((∀ p ∈ l, p.may) ∧ l.Pairwise keyLt)) → Hid (Below w0.heap.size w0 w') → Q .ret ⟨List.toArray ((.slice A l.length c) :: c1 :: (.int .i64 1) :: y :: c4 :: c5 :: c6 :: c7 :: c8 :: c9 :: c10 :: c11 :: u12 :: u13 :: u14 :: u15 :: u16 :: u17 :: u18 :: u19 :: u20 :: u21 :: u22 :: u23 :: u24 :: u25 :: u26 :: u27 :: u28 :: u29 :: u30 :: u31 :: u32 :: u33 :: u34 :: u35 :: u36 :: u37 :: u38 :: u39 :: u40 :: u41 :: u42 :: u43 :: u44 :: u45 :: u46 :: u47 :: u48 :: u49 :: u50 :: u51 :: u52 :: u53 :: u54 :: u55 :: u56 :: u57 :: u58 :: u59 :: u60 :: u61 :: u62 :: u63 :: u64 :: u65 :: u66 :: u67 :: []), []⟩ w')) :
    (Code.loop body_rck).wp Try.prog Q ⟨List.toArray ((.slice A l.length c) :: c1 :: c2 :: (.int .i64 0) :: c4 :: c5 :: c6 :: c7 :: c8 :: c9 :: c10 :: c11 :: c12 :: c13 :: c14 :: c15 :: c16 :: c17 :: c18 :: c19 :: c20 :: c21 :: c22 :: c23 :: c24 :: c25 :: c26 :: c27 :: c28 :: c29 :: c30 :: c31 :: c32 :: c33 :: c34 :: c35 :: c36 :: c37 :: c38 :: c39 :: c40 :: c41 :: c42 :: c43 :: c44 :: c45 :: c46 :: c47 :: c48 :: c49 :: c50 :: c51 :: c52 :: c53 :: c54 :: c55 :: c56 :: c57 :: c58 :: c59 :: c60 :: c61 :: c62 :: c63 :: c64 :: c65 :: c66 :: c67 :: []), []⟩ w := by
  unfold body_rck
  conv => arg 2; arg 1; whnf
  go_loopw [3] (fun y wx => ∃ (j : Nat), y = .int .i64 (j : Int) ∧ j ≤ l.length ∧ RckS l j ∧ Below w0.heap.size w0 wx) (fun y _ => l.length - (intOf y).toNat)
  case atStart => exact ⟨0, rfl, Nat.zero_le _, ⟨fun i p h => by omega, fun i p q h => by omega⟩, hb.out⟩
  case round =>
    obtain ⟨j, rfl, hj, hck, hbw⟩ := hrel
    have hrs : RsP wr (.slice A l.length c) l := h0.out.below hbw
    have HBW := Lib.hid hbw
    have HCK := Lib.hid hck
    have hl := hn.out
    have pI : (l.length : Int) ≤ 9223372036854775807 := by omega
    by_cases hlt : j < l.length
    · have jI : (j : Int) < l.length := by omega
      have HLT := Lib.hid hlt
      obtain ⟨p, hp⟩ : ∃ p, l[j]? = some p := ⟨_, List.getElem?_eq_getElem hlt⟩
      obtain ⟨g, o, rfl, hg, hr, hok⟩ := hrs.at2 hp
      obtain ⟨q0, q1, q2, q3, q4⟩ := range5 hr
      obtain ⟨s, t, v, nn, oo⟩ := p
      simp only at q0 q1 q2 q3 q4
      by_cases hm : Pc.may ⟨s, t, v, nn, oo⟩
      · have HC : Hid (∀ W, Calls Try.prog 22 #[.agg #[.string s, .int .i64 t, .int .i64 v, .int .u64 (nn : Int), .int .u16 (oo : Int)]] W fun e W' => e = .returned (.bool true) ∧ Below W.heap.size W W') := Lib.hid fun W => by
          have h1 := refCheckP_any ⟨s, t, v, nn, oo⟩ hok W
          rw [decide_eq_true hm] at h1
          exact h1
        have HM := Lib.hid hm
        have HP := Lib.hid hp
        clear hm hp hr hok hbw hck hl hrs hg
        go_wp2_with (fail)
        refine (HC.out _).mono ?_
        rintro e w1 ⟨rfl, b1⟩
        have hbw1 := HBW.out.trans (b1.mono HBW.out.size)
        have HB1 := Lib.hid hbw1
        have hrs := h0.out.below hbw1
        obtain ⟨g1, o1, he1, _, hr, _⟩ := hrs.at2 HP.out
        obtain ⟨rfl, rfl⟩ : g = g1 ∧ o = o1 := by
          injection he1 with he1
          injection he1 with h1 h2
          exact ⟨h1, h2⟩
        obtain ⟨p0, p1, _⟩ := range5 hr
        simp only at p0 p1
        by_cases hj0 : j = 0
        · subst hj0
          have HNX := Lib.hid (RckS.first HP.out HM.out)
          have p00 : w1.cell? ⟨g, o, none⟩ = some (.string s) := by rw [Nat.zero_mul, Nat.add_zero] at p0; exact p0
          clear p0 p1 q0 q1 q2 q3 q4 hr hrs hbw1 b1 he1 hlt hj jI
          go_wp2_with (fail)
          go_quiet (fail)
          go_wp2_with (fail)
          have hlen := HLT.out
          refine ⟨⟨1, by go_num, hlen, HNX.out, below_drewN HB1.out _⟩, by simp [intOf]; omega⟩
        · obtain ⟨k, hjk⟩ : ∃ k, j = k + 1 := ⟨j - 1, by omega⟩
          have jw : IntKind.i64.wrap ((j : Int) - 1) = (k : Int) := by
            rw [IntWalk.i64_in _ (by omega)]
            omega
          have kI : (k : Int) < l.length := by omega
          have jp : (0 : Int) < (j : Int) := by omega
          have jp2 : 0 < j := by omega
          have jp3 : decide (0 < j) = true := decide_eq_true jp2
          have jp4 : decide ((0 : Int) < (j : Int)) = true := decide_eq_true jp
          obtain ⟨q, hq⟩ : ∃ q, l[k]? = some q := ⟨_, List.getElem?_eq_getElem (by omega)⟩
          obtain ⟨g2, o2, he2, _, hr2, _⟩ := hrs.at2 hq
          obtain ⟨rfl, rfl⟩ : g = g2 ∧ o = o2 := by
            injection he2 with he2
            injection he2 with h1 h2
            exact ⟨h1, h2⟩
          obtain ⟨s', t', v', n', o'⟩ := q
          obtain ⟨r0, r1, _⟩ := range5 hr2
          simp only at r0 r1
          have hp1 : l[k + 1]? = some ⟨s, t, v, nn, oo⟩ := by rw [← hjk]; exact HP.out
          have hck1 : RckS l (k + 1) := by rw [← hjk]; exact HCK.out
          have HNX : Hid (keyLt ⟨s', t', v', n', o'⟩ ⟨s, t, v, nn, oo⟩ → RckS l (j + 1)) := Lib.hid fun h => by
            rw [hjk]
            exact RckS.next hck1 hq hp1 HM.out h
          have HNO : Hid (¬ keyLt ⟨s', t', v', n', o'⟩ ⟨s, t, v, nn, oo⟩ → ¬ ((∀ p ∈ l, p.may) ∧ l.Pairwise keyLt)) := Lib.hid fun h => not_ord hq hp1 h
          clear hp1 hck1 hq hr2 he2 hjk hj0 hr hrs hbw1 b1 he1 hlt hj q0 q1 q2 q3 q4
          by_cases c1 : Op.bytesLess s.toList s'.toList = true
          · have HX := Lib.hid (HNO.out fun h => by
              rcases h with h | ⟨h, _⟩
              · have := bl_trans c1 h
                rw [bl_irrefl] at this
                cases this
              · simp only at h
                rw [h, bl_irrefl] at c1
                cases c1)
            go_wp2_with (fail)
            go_quiet (fail)
            go_wp2_with (fail)
            exact HE.out _ _ _ _ _ _ _ _ _ _ _ _ _ _ _ _ _ _ _ _ _ _ _ _ _ _ _ _ _ _ _ _ _ _ _ _ _ _ _ _ _ _ _ _ _ _ _ _ _ _ _ _ _ _ _ _ _ _ HX (Lib.hid (below_drewN HB1.out _))
          · have c2 : Op.bytesLess s.toList s'.toList = false := by simpa using c1
            by_cases c3 : s.toList = s'.toList
            · have g3 : (s.toList == s'.toList) = true := by rw [c3]; exact beq_self_eq_true _
              by_cases c4 : t ≤ t'
              · have g4 : decide (t ≤ t') = true := decide_eq_true c4
                have HX := Lib.hid (HNO.out fun h => by
                  rcases h with h | ⟨_, h⟩
                  · simp only at h
                    rw [c3, bl_irrefl] at h
                    cases h
                  · simp only at h
                    omega)
                clear c1 c3 c4
                go_wp2_with (fail)
                go_quiet (fail)
                go_wp2_with (fail)
                exact HE.out _ _ _ _ _ _ _ _ _ _ _ _ _ _ _ _ _ _ _ _ _ _ _ _ _ _ _ _ _ _ _ _ _ _ _ _ _ _ _ _ _ _ _ _ _ _ _ _ _ _ _ _ _ _ _ _ _ _ HX (Lib.hid (below_drewN HB1.out _))
              · have g4 : decide (t ≤ t') = false := decide_eq_false c4
                have HX := Lib.hid (HNX.out (.inr ⟨(str_inj c3).symm, by show t' < t; omega⟩))
                clear c1 c3 c4
                go_wp2_with (fail)
                go_quiet (fail)
                go_wp2_with (fail)
                have hlen := HLT.out
                refine ⟨⟨j + 1, by go_num, hlen, HX.out, below_drewN HB1.out _⟩, by simp [intOf]; omega⟩
            · have g3 : (s.toList == s'.toList) = false := by rw [beq_eq_false_iff_ne]; exact c3
              have HX := Lib.hid (HNX.out (.inl (bl_tri c3 c2)))
              clear c1 c3
              go_wp2_with (fail)
              go_quiet (fail)
              go_wp2_with (fail)
              have hlen := HLT.out
              refine ⟨⟨j + 1, by go_num, hlen, HX.out, below_drewN HB1.out _⟩, by simp [intOf]; omega⟩
      · have HC : Hid (∀ W, Calls Try.prog 22 #[.agg #[.string s, .int .i64 t, .int .i64 v, .int .u64 (nn : Int), .int .u16 (oo : Int)]] W fun e W' => e = .returned (.bool false) ∧ Below W.heap.size W W') := Lib.hid fun W => by
          have h1 := refCheckP_any ⟨s, t, v, nn, oo⟩ hok W
          rw [decide_eq_false hm] at h1
          exact h1
        have HX := Lib.hid (not_may hp hm)
        clear hm hp hr hok hbw hck hl hrs hg
        go_wp2_with (fail)
        refine (HC.out _).mono ?_
        rintro e w1 ⟨rfl, b1⟩
        have HB1 := Lib.hid (HBW.out.trans (b1.mono HBW.out.size))
        clear b1
        go_wp2_with (fail)
        exact HE.out _ _ _ _ _ _ _ _ _ _ _ _ _ _ _ _ _ _ _ _ _ _ _ _ _ _ _ _ _ _ _ _ _ _ _ _ _ _ _ _ _ _ _ _ _ _ _ _ _ _ _ _ _ _ _ _ _ _ HX HB1
    · have jI : ¬ (j : Int) < l.length := by omega
      have e : j = l.length := by omega
      subst e
      clear hbw hck hrs hl hj hlt
      go_wp2_with (fail)
      exact HQ.out _ _ _ _ _ _ _ _ _ _ _ _ _ _ _ _ _ _ _ _ _ _ _ _ _ _ _ _ _ _ _ _ _ _ _ _ _ _ _ _ _ _ _ _ _ _ _ _ _ _ _ _ _ _ _ _ _ _ _ HCK HBW
set_option maxRecDepth 100000 in
set_option maxHeartbeats 4000000 in
theorem refCheckD_any (v : Value) (l : List Pc) (w : World) (h : RsP w v l) (hn : l.length ≤ 1000) (hs : ∀ p ∈ l, p.s.size ≤ 1000) :
    Calls Try.prog 9 #[v] w fun e w' => e = .returned (.int .i64 (checkD l : Int)) ∧ Below w.heap.size w w' := by
  obtain ⟨A, c, rfl, _⟩ := h.form
  have H := Lib.hid h
  have HN := Lib.hid hn
  have pI : (l.length : Int) ≤ 9223372036854775807 := by omega
  have HR : Hid (∀ W : World, RsP W (.slice A l.length c) l → Calls Try.prog 12 #[.slice A l.length c] W fun e w' => e = .returned (.int .i64 (roomD l : Int)) ∧ ∃ m, w' = W.drewN m) := Lib.hid fun W hW => refRoom_any _ l W hW hn hs
  by_cases h1 : 256 < l.length
  · have e1 : checkD l = 3 := by unfold checkD; rw [if_pos (.inl h1)]
    have g1 : decide ((256 : Int) < (l.length : Int)) = true := decide_eq_true (by omega)
    have g2 : (256 : Int) < (l.length : Int) := by omega
    rw [e1]
    clear h1 e1 h hn hs
    go_enter Try.func9, Try.ntmps9
    go_wp2_with (fail)
    go_ret
    exact ⟨rfl, Below.refl _ _⟩
  · have g1 : decide ((256 : Int) < (l.length : Int)) = false := decide_eq_false (by omega)
    obtain ⟨R, hR⟩ : ∃ R, R = roomD l := ⟨_, rfl⟩
    rw [← hR] at HR
    by_cases h2 : 4096 < R
    · have e1 : checkD l = 3 := by unfold checkD; rw [if_pos (.inr (by rw [← hR]; exact h2))]
      have g3 : decide ((4096 : Int) < (R : Int)) = true := decide_eq_true (by omega)
      have g4 : (4096 : Int) < (R : Int) := by omega
      rw [e1]
      clear h1 h2 e1 h hn hs hR
      go_enter Try.func9, Try.ntmps9
      go_wp2_with (fail)
      refine (HR.out _ H.out).mono ?_
      rintro e w1 ⟨rfl, m, rfl⟩
      go_wp2_with (fail)
      go_ret
      exact ⟨rfl, below_drewN (Below.refl _ _) m⟩
    · have g3 : decide ((4096 : Int) < (R : Int)) = false := decide_eq_false (by omega)
      have HB := Lib.hid (show ¬ (256 < l.length ∨ 4096 < roomD l) by rw [← hR]; omega)
      obtain ⟨k, hk⟩ : ∃ k, k = checkD l := ⟨_, rfl⟩
      rw [← hk]
      have HK := Lib.hid hk
      clear h1 h2 h hn hs hR hk
      go_enter Try.func9, Try.ntmps9
      go_wp2_with (fail)
      refine (HR.out _ H.out).mono ?_
      rintro e w1 ⟨rfl, m, rfl⟩
      go_wp2_with (fail)
      refine rck_loop _ _ _ _ _ _ _ _ _ _ _ _ _ _ _ _ _ _ _ _ _ _ _ _ _ _ _ _ _ _ _ _ _ _ _ _ _ _ _ _ _ _ _ _ _ _ _ _ _ _ _ _ _ _ _ _ _ _ _ _ _ _ _ _ _ _ w A c l _ H HN (Lib.hid (below_drewN (Below.refl _ _) m)) (Lib.hid ?_) (Lib.hid ?_)
      · intro u2 u12 u13 u14 u15 u16 u17 u18 u19 u20 u21 u22 u23 u24 u25 u26 u27 u28 u29 u30 u31 u32 u33 u34 u35 u36 u37 u38 u39 u40 u41 u42 u43 u44 u45 u46 u47 u48 u49 u50 u51 u52 u53 u54 u55 u56 u57 u58 u59 u60 u61 u62 u63 u64 u65 u66 u67 y w' hs hb
        go_wp2_with (fail)
        go_ret
        refine ⟨?_, hb.out⟩
        rw [HK.out, hs.out.all HB.out]
        rfl
      · intro u12 u13 u14 u15 u16 u17 u18 u19 u20 u21 u22 u23 u24 u25 u26 u27 u28 u29 u30 u31 u32 u33 u34 u35 u36 u37 u38 u39 u40 u41 u42 u43 u44 u45 u46 u47 u48 u49 u50 u51 u52 u53 u54 u55 u56 u57 u58 u59 u60 u61 u62 u63 u64 u65 u66 u67 y w' hs hb
        go_ret
        refine ⟨?_, hb.out⟩
        rw [HK.out, check_no HB.out hs.out]
        rfl
end Go.Proofs.Ytcicdbhffkpldaa
