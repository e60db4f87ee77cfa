/- Part 28 of the words that the laws share: DtRdO. No condition of its own: each theorem says its own. -/
import Derived.Test.YtcicdbhffkpldaaPart26
import Derived.Test.YtcicdbhffkpldaaPart27

/- The developers' reader: its outer loop, and whole (piecesOf). Conditions: at most 100000 bytes. -/
namespace Go.Proofs.Ytcicdbhffkpldaa
open Go.RowKit

/-- A row's head: how much of the text is there, what is left, whether all was good. -/
def tkN (f : List UInt8) (n : Nat) : Nat := if n ≤ f.length then n else 0
theorem runS_yes {f f1 f2 f3 : List UInt8} {n k : Nat} (h1 : f1 = dS f) (hn : n = sN f) (h2 : f2 = f1.drop (tkN f1 n)) (h3 : f3 = dS f2) (hk : k = sN f2) (h : (sB f && decide (n ≤ f1.length) && sB f2) = true) : runR f = (rowR (strOf (f1.take (tkN f1 n))) k 0 0 0 f3).map fun q => ((strOf (f1.take (tkN f1 n)), q.1), q.2) := by
  simp only [Bool.and_eq_true, decide_eq_true_eq, sB_iff] at h
  obtain ⟨⟨a1, a2⟩, a3⟩ := h
  have e1 : getS f = (n, sU f, 0) := by rw [← a1, hn]; rfl
  have et : tkN f1 n = n := by unfold tkN; rw [if_pos a2]
  rw [et] at h2 ⊢
  have e2 : getS ((f.drop (sU f)).drop n) = (k, sU f2, 0) := by
    have : (f.drop (sU f)).drop n = f2 := by rw [h2, h1]; rfl
    rw [this, ← a3, hk]
    rfl
  have e3 : ¬ (f.drop (sU f)).length < n := by
    have : (f.drop (sU f)) = f1 := h1.symm
    rw [this]
    omega
  have e4 : ((f.drop (sU f)).drop n).drop (sU f2) = f3 := by rw [h3, h2, h1]; rfl
  have e5 : (f.drop (sU f)).take n = f1.take n := by rw [h1]; rfl
  cases hr : rowR (strOf (f1.take n)) k 0 0 0 f3 with
  | none => exact runR_4 e1 e3 e2 (by rw [e4, e5]; exact hr)
  | some q =>
    obtain ⟨ps, c⟩ := q
    have h5 := runR_5 e1 e3 e2 (by rw [e4, e5]; exact hr)
    rw [h5, e5]
    rfl
theorem runS_no {f f1 f2 : List UInt8} {n : Nat} (h1 : f1 = dS f) (hn : n = sN f) (h2 : f2 = f1.drop (tkN f1 n)) (h : (sB f && decide (n ≤ f1.length) && sB f2) = false) : runR f = none := by
  by_cases a1 : (getS f).2.2 = 0
  · have e1 : getS f = (n, sU f, 0) := by rw [← a1, hn]; rfl
    by_cases a2 : n ≤ f1.length
    · have et : tkN f1 n = n := by unfold tkN; rw [if_pos a2]
      rw [et] at h2
      rw [(sB_iff f).2 a1, decide_eq_true a2, Bool.true_and, Bool.true_and] at h
      have e3 : ¬ (f.drop (sU f)).length < n := by
        have : (f.drop (sU f)) = f1 := h1.symm
        rw [this]
        omega
      have e0 : (f.drop (sU f)).drop n = f2 := by rw [h2, h1]; rfl
      refine runR_3 e1 e3 (y := sN f2) (w := sU f2) (e := (getS f2).2.2) (by rw [e0]; rfl) fun e => ?_
      rw [(sB_iff f2).2 e] at h
      cases h
    · refine runR_2 e1 ?_
      have : (f.drop (sU f)) = f1 := h1.symm
      rw [this]
      omega
  · exact runR_1 (x := sN f) (u := sU f) (e := (getS f).2.2) rfl a1
/-- What is held between rows. -/
structure RO (w0 : World) (N X Z : Nat) (L : List Pc) (vo : Value) (f : List UInt8) (g : Bool) (w : World) : Prop where
  rv : RV w0 w X Z f g
  own : OwnR 5 w w0.heap.size 46 vo (pcRows L)
  ok : ∀ p ∈ L, p.Ok ∧ p.s.size ≤ 100000
  few : L.length + f.length ≤ N
theorem RI.ro {w0 w : World} {N X Z Y : Nat} {L : List Pc} {vo : Value} {f : List UInt8} {g : Bool} {t d v : Int} (h : RI w0 N X Z Y L vo f g t d v w) : RO w0 N X Z L vo f g w := ⟨h.rv, h.own, h.ok, h.few⟩
theorem RO.on {w0 w w' : World} {N X Z : Nat} {L : List Pc} {vo : Value} {f f' : List UInt8} {g g' : Bool} (h : RO w0 N X Z L vo f g w) (hr : RV w0 w' X Z f' g') (hc : Chg (fun k => k = X ∨ k = Z) w w') (hl : f'.length ≤ f.length) : RO w0 N X Z L vo f' g' w' := by
  obtain ⟨vf, h1, _⟩ := h.rv.left
  refine ⟨hr, hc.ownR h.own fun k e hk => ?_, h.ok, by have := h.few; omega⟩
  rcases hk with rfl | rfl
  · exact own_farR h.own h1 (by decide) e
  · exact own_farR h.own h.rv.good (by decide) e
theorem RO.track {w0 w : World} {N X Z : Nat} {L : List Pc} {vo : Value} {f : List UInt8} {g : Bool} (h : RO w0 N X Z L vo f g w) : RI w0 N X Z w.heap.size L vo f g 0 0 0 (w.alloc (.cells #[.int .u64 0, .int .u64 0, .int .u64 0] 61)) := by
  obtain ⟨vf, h1, h2⟩ := h.rv.left
  have hb : Below w.heap.size w (w.alloc (.cells #[.int .u64 0, .int .u64 0, .int .u64 0] 61)) := (Below.refl _ _).alloc (Nat.le_refl _) _
  have hx := h1.lt
  have hz := h.rv.good.lt
  exact ⟨⟨⟨vf, h1.alloc _, h2⟩, h.rv.good.alloc _, h.rv.low.trans (hb.mono h.rv.low.size), h.rv.ge⟩, (Chg.of_below hb).ownR h.own (fun k e hk => by have := (h.own.lt k e).2; omega), h.ok, h.few, Blk.made w _ _, ⟨by omega, by omega, h.rv.low.size⟩⟩
noncomputable def body_dpo : Code := (((Try.f27.body.map loopsOf).getD [])[0]?).getD .skip
set_option maxRecDepth 100000 in
set_option maxHeartbeats 8000000 in
theorem dpo_loop (c0 c2 c7 c8 c9 c10 c11 c12 c13 c14 c15 c16 c17 c18 c21 c22 c23 c24 c25 c26 c27 c28 c29 c30 c31 c32 c33 c34 c35 c36 c37 c38 c39 c40 c41 c42 c43 c44 c45 c46 c47 c48 c49 c50 c51 c52 c53 c54 c55 c56 c57 c58 c59 c60 c61 c62 c63 c64 c65 c66 c67 c68 : Value) (w0 w1 : World) (N X Z : Nat) (k : Nat) (TT : Option (List (ByteArray × List Pc) × List UInt8)) (f0 : List UInt8) (g0 : Bool) (hN : Hid (N ≤ 100000)) (hk : Hid (k < 18446744073709551616)) (h0 : Hid (RO w0 N X Z [] (.slice none 0 0) f0 g0 w1)) (hF0 : Hid ((g0 = true → TT = runsR k f0) ∧ (g0 = false → TT = none))) {Q : Exit → Act → World → Prop}
    (HQ : Hid (∀ (u7 u8 u9 u10 u11 u12 u13 u14 u15 u21 u22 u23 u24 u25 u26 u27 u28 u29 u30 u31 u32 u33 u34 u35 u36 u37 u38 u39 u40 u41 u42 u43 u44 u45 u46 u47 u48 u49 u50 u51 u52 u53 u54 u55 u56 u57 u58 u59 u60 u61 u62 u63 u64 u65 u66 u67 vo y : Value) (w' : World) (L : List Pc) (f : List UInt8) (g : Bool), Hid (RO w0 N X Z L vo f g w') → Hid (∀ R c, TT = some (R, c) → L = allR R) → Q (.exit 0) ⟨List.toArray (c0 :: (.pointer (some ⟨X, 0, none⟩)) :: c2 :: vo :: (.pointer (some ⟨Z, 0, none⟩)) :: (.func (.func 39) #[] #[.pointer (some ⟨X, 0, none⟩), .pointer (some ⟨Z, 0, none⟩)]) :: (.func (.func 41) #[] #[.pointer (some ⟨X, 0, none⟩), .pointer (some ⟨Z, 0, none⟩)]) :: u7 :: u8 :: u9 :: u10 :: u11 :: u12 :: u13 :: u14 :: u15 :: c16 :: c17 :: c18 :: (.int .u64 (k : Int)) :: y :: u21 :: u22 :: u23 :: u24 :: u25 :: u26 :: u27 :: u28 :: u29 :: u30 :: u31 :: u32 :: u33 :: u34 :: u35 :: u36 :: u37 :: u38 :: u39 :: u40 :: u41 :: u42 :: u43 :: u44 :: u45 :: u46 :: u47 :: u48 :: u49 :: u50 :: u51 :: u52 :: u53 :: u54 :: u55 :: u56 :: u57 :: u58 :: u59 :: u60 :: u61 :: u62 :: u63 :: u64 :: u65 :: u66 :: u67 :: c68 :: []), []⟩ w')) :
    (Code.loop body_dpo).wp Try.prog Q ⟨List.toArray (c0 :: (.pointer (some ⟨X, 0, none⟩)) :: c2 :: (.slice none 0 0) :: (.pointer (some ⟨Z, 0, none⟩)) :: (.func (.func 39) #[] #[.pointer (some ⟨X, 0, none⟩), .pointer (some ⟨Z, 0, none⟩)]) :: (.func (.func 41) #[] #[.pointer (some ⟨X, 0, none⟩), .pointer (some ⟨Z, 0, none⟩)]) :: c7 :: c8 :: c9 :: c10 :: c11 :: c12 :: c13 :: c14 :: c15 :: c16 :: c17 :: c18 :: (.int .u64 (k : Int)) :: (.int .u64 ((0 : Nat) : Int)) :: c21 :: c22 :: c23 :: c24 :: c25 :: c26 :: c27 :: c28 :: c29 :: c30 :: c31 :: c32 :: c33 :: c34 :: c35 :: c36 :: c37 :: c38 :: c39 :: c40 :: c41 :: c42 :: c43 :: c44 :: c45 :: c46 :: c47 :: c48 :: c49 :: c50 :: c51 :: c52 :: c53 :: c54 :: c55 :: c56 :: c57 :: c58 :: c59 :: c60 :: c61 :: c62 :: c63 :: c64 :: c65 :: c66 :: c67 :: c68 :: []), []⟩ w1 := by
  unfold body_dpo
  conv => arg 2; arg 1; whnf
  go_loopw [3, 20] (fun vo y wx => ∃ (i : Nat) (R : List (ByteArray × List Pc)) (f : List UInt8) (g : Bool), y = .int .u64 (i : Int) ∧ i ≤ k ∧ RO w0 N X Z (allR R) vo f g wx ∧ (g = true → TT = (runsR (k - i) f).map fun q => (R ++ q.1, q.2)) ∧ (g = false → TT = none)) (fun _ y _ => k - (intOf y).toNat)
  case atStart => exact ⟨0, [], f0, g0, rfl, Nat.zero_le _, h0.out, fun h => by rw [hF0.out.1 h, Nat.sub_zero]; cases runsR k f0 <;> rfl, hF0.out.2⟩
  case round =>
    obtain ⟨i, R, f, g, rfl, hi, hR, hFg, hBg⟩ := hrel
    have HR := Lib.hid hR
    have kb := hk.out
    by_cases hlt : i < k
    · have iI : (i : Int) < k := by omega
      have HLT := Lib.hid hlt
      have HFG := Lib.hid hFg
      have HBG := Lib.hid hBg
      have hx1 := (getS_all f).2.1
      obtain ⟨n, hn⟩ : ∃ x, x = sN f := ⟨_, rfl⟩
      obtain ⟨f1, hf1⟩ : ∃ x, x = dS f := ⟨_, rfl⟩
      obtain ⟨q, hq⟩ : ∃ x, x = tkN f1 n := ⟨_, rfl⟩
      obtain ⟨f2, hf2⟩ : ∃ x, x = f1.drop q := ⟨_, rfl⟩
      have hx2 := (getS_all f2).2.1
      obtain ⟨k2, hk2⟩ : ∃ x, x = sN f2 := ⟨_, rfl⟩
      obtain ⟨f3, hf3⟩ : ∃ x, x = dS f2 := ⟨_, rfl⟩
      obtain ⟨gg1, hg1⟩ : ∃ x, x = (g && sB f) := ⟨_, rfl⟩
      obtain ⟨gg2, hg2⟩ : ∃ x, x = (gg1 && decide (n ≤ f1.length)) := ⟨_, rfl⟩
      obtain ⟨gg3, hg3⟩ : ∃ x, x = (gg2 && sB f2) := ⟨_, rfl⟩
      obtain ⟨s, hs⟩ : ∃ s, s = strOf (f1.take q) := ⟨_, rfl⟩
      rw [← hn] at hx1
      rw [← hk2] at hx2
      have l1 := dS_len f
      have l3 := dS_len f2
      rw [← hf1] at l1
      rw [← hf3] at l3
      have l2 : f2.length ≤ f1.length := by rw [hf2, List.length_drop]; omega
      have LL : Hid (f1.length ≤ f.length ∧ f2.length ≤ f1.length ∧ f3.length ≤ f2.length) := Lib.hid ⟨l1, l2, l3⟩
      have hsz : s.size ≤ 100000 := by
        rw [hs, strOf_size, List.length_take]
        have := hR.few
        have := hN.out
        omega
      have C1 : Hid (∀ W, RV w0 W X Z f g → Calls Try.prog 39 #[.pointer (some ⟨X, 0, none⟩), .pointer (some ⟨Z, 0, none⟩)] W fun e w' => e = .returned (.int .u64 (n : Int)) ∧ RV w0 w' X Z f1 gg1 ∧ Chg (fun k => k = X ∨ k = Z) W w') := Lib.hid fun W h => by
        rw [hn, hf1, hg1]
        exact rshort_any w0 W X Z f g h
      have C2 : Hid (∀ W, RV w0 W X Z f1 gg1 → Calls Try.prog 41 #[.int .u64 (n : Int), .pointer (some ⟨X, 0, none⟩), .pointer (some ⟨Z, 0, none⟩)] W fun e w' => ∃ vt, e = .returned vt ∧ Rd w0 vt (f1.take q) ∧ RV w0 w' X Z f2 gg2 ∧ Chg (fun k => k = X ∨ k = Z) W w') := Lib.hid fun W h => by
        rw [hg2, hf2]
        exact rtake_any w0 W X Z f1 gg1 h n q hx1 (by have := hR.few; have := hN.out; omega) hq
      have C3 : Hid (∀ W, RV w0 W X Z f2 gg2 → Calls Try.prog 39 #[.pointer (some ⟨X, 0, none⟩), .pointer (some ⟨Z, 0, none⟩)] W fun e w' => e = .returned (.int .u64 (k2 : Int)) ∧ RV w0 w' X Z f3 gg3 ∧ Chg (fun k => k = X ∨ k = Z) W w') := Lib.hid fun W h => by
        rw [hk2, hf3, hg3]
        exact rshort_any w0 W X Z f2 gg2 h
      obtain ⟨FR, hFR⟩ : ∃ x, x = (if g = true then runR f else none) := ⟨_, rfl⟩
      have HF1 : Hid (gg3 = true → FR = (rowR s k2 0 0 0 f3).map fun q => ((s, q.1), q.2)) := Lib.hid fun h => by
        rw [hg3, hg2, hg1] at h
        have h2 := h
        simp only [Bool.and_eq_true, decide_eq_true_eq] at h2
        rw [hFR, if_pos h2.1.1.1, hs, hq]
        exact runS_yes (f2 := f2) hf1 hn (by rw [hf2, hq]) hf3 hk2 (by rw [h2.1.1.2, decide_eq_true h2.1.2, h2.2]; rfl)
      have HBF : Hid (FR = none → TT = none) := Lib.hid fun h => by
        cases g with
        | false => exact HBG.out rfl
        | true =>
          rw [hFR, if_pos rfl] at h
          obtain ⟨m, hm⟩ : ∃ m, k - i = m + 1 := ⟨k - i - 1, by omega⟩
          rw [HFG.out rfl, hm, runsR, h]
          rfl
      have HB1 : Hid (gg3 = false → TT = none) := Lib.hid fun h => HBF.out (by
        rw [hFR]
        cases g with
        | false => rfl
        | true =>
          rw [if_pos rfl]
          exact runS_no (f2 := f2) hf1 hn (by rw [hf2, hq]) (by
            rw [hg3, hg2, hg1, Bool.true_and] at h
            exact h))
      have HNX : Hid (∀ done f', FR = some ((s, done), f') → TT = (runsR (k - (i + 1)) f').map fun q => ((R ++ [(s, done)]) ++ q.1, q.2)) := Lib.hid fun done f' h => by
        cases g with
        | false => rw [hFR] at h; cases h
        | true =>
          rw [hFR, if_pos rfl] at h
          obtain ⟨m, hm⟩ : ∃ m, k - i = m + 1 := ⟨k - i - 1, by omega⟩
          rw [HFG.out rfl, hm, runsR, h, show k - (i + 1) = m by omega]
          simp only
          cases runsR m f' with
          | none => rfl
          | some q => simp
      have HSZ := Lib.hid hsz
      have HK2 : Hid (k2 < 18446744073709551616) := Lib.hid hx2
      have HST := Lib.hid hs
      have HNN : Hid (N ≤ 1000000) := Lib.hid (by have := hN.out; omega)
      have iw : IntKind.u64.wrap ((i : Int) + 1) = ((i + 1 : Nat) : Int) := by
        rw [IntWalk.u64_in _ (by omega)]
        omega
      clear hn hf1 hq hf2 hk2 hf3 hg1 hg2 hg3 hFR hs hsz hx1 hx2 l1 l2 l3 hR hFg hBg hi hlt
      go_wp2_with (fail)
      refine (C1.out _ HR.out.rv).mono ?_
      rintro e w2 ⟨rfl, r2, c2⟩
      have R2 := Lib.hid (HR.out.on r2 c2 LL.out.1)
      clear r2 c2 C1
      go_wp2_with (fail)
      refine (C2.out _ R2.out.rv).mono ?_
      rintro e w3 ⟨vt, rfl, rd3, r3, c3⟩
      have R3 := Lib.hid (R2.out.on r3 c3 LL.out.2.1)
      have RD3 := Lib.hid (rd3.below R3.out.rv.low)
      clear r3 c3 C2 R2 rd3
      obtain ⟨W4, hW4⟩ : ∃ V, V = w3.alloc (.cells #[.int .u64 0, .int .u64 0, .int .u64 0] 61) := ⟨_, rfl⟩
      have R4 : Hid (RI w0 N X Z w3.heap.size (allR R) u3 f2 gg2 0 0 0 W4) := Lib.hid (by rw [hW4]; exact R3.out.track)
      go_upto_region 9 with ((with_reducible refine here_conv ?_); refine wpList_rd_str w3 rfl (.tmp 25) 25 9 5 rfl Try.underlying25 Try.underlying5 Try.underlying9 (f1.take q) RD3.out ?_)
      rw [← hW4, ← HST.out]
      clear hW4 R3 RD3
      go_wp2_with (fail)
      refine (C3.out _ R4.out.rv).mono ?_
      rintro e w5 ⟨rfl, r5, c5⟩
      have R5 := Lib.hid (R4.out.on r5 c5 LL.out.2.2)
      clear r5 c5 C3 R4
      go_wp2_with (fail)
      refine dpi_loop _ _ _ _ _ _ _ _ _ _ _ _ _ _ _ _ _ _ _ _ _ _ _ _ _ _ _ _ _ _ _ _ _ _ _ _ _ _ _ _ _ _ _ _ _ _ _ _ _ _ _ _ _ _ _ _ _ _ _ _ w0 w5 N X Z w3.heap.size (allR R) s k2 FR (TT = none) u3 f3 gg3 HNN HSZ HK2 R5 HF1 HB1 HBF (Lib.hid ?_) (Lib.hid ?_)
      · intro u9 u10 u11 u12 u13 u14 u15 u30 u31 u32 u33 u34 u35 u36 u37 u38 u39 u40 u41 u42 u43 u44 u45 u46 u47 u48 u49 u50 u51 u52 u53 u54 u55 u56 u57 u58 u59 u60 u61 u62 u63 u64 vo y w6 done f' g' t d v R6 HG
        have c0 : w6.cell? ⟨Z, 0, none⟩ = some (.bool g') := R6.out.rv.good.cell 0
        cases g' with
        | true =>
          have HN2 := Lib.hid (HNX.out done f' (HG.out.1 rfl))
          clear HG
          go_wp2_with (fail)
          have hlt := HLT.out
          refine ⟨⟨i + 1, R ++ [(s, done)], f', true, by first | rfl | go_num, by omega, by rw [allR_snoc]; exact R6.out.ro, fun _ => HN2.out, fun h => (by cases h)⟩, by simp [intOf]; omega⟩
        | false =>
          have HN2 : Hid (TT = none) := Lib.hid (HG.out.2 rfl)
          clear HG
          go_wp2_with (fail)
          exact HQ.out _ _ _ _ _ _ _ _ _ _ _ _ _ _ _ _ _ _ _ _ _ _ _ _ _ _ _ _ _ _ _ _ _ _ _ _ _ _ _ _ _ _ _ _ _ _ _ _ _ _ _ _ _ _ _ _ _ _ _ _ f' false (Lib.hid R6.out.ro) (Lib.hid fun R c h => by rw [HN2.out] at h; cases h)
      · intro u9 u10 u11 u12 u13 u14 u15 u30 u31 u32 u33 u34 u35 u36 u37 u38 u39 u40 u41 u42 u43 u44 u45 u46 u47 u48 u49 u50 u51 u52 u53 u54 u55 u56 u57 u58 u59 u60 u61 u62 u63 u64 vo y w6 L f' g' t d v R6 HG
        go_wp2_with (fail)
        exact HQ.out _ _ _ _ _ _ _ _ _ _ _ _ _ _ _ _ _ _ _ _ _ _ _ _ _ _ _ _ _ _ _ _ _ _ _ _ _ _ _ _ _ _ _ _ _ _ _ _ _ _ _ _ _ _ _ _ _ _ _ L f' g' (Lib.hid R6.out.ro) (Lib.hid fun R c h => by rw [HG.out] at h; cases h)
    · have e : i = k := by omega
      subst e
      have HF : Hid (∀ R' c, TT = some (R', c) → allR R = allR R') := Lib.hid fun R' c h => by
        cases g with
        | false => rw [hBg rfl] at h; cases h
        | true =>
          rw [hFg rfl, Nat.sub_self, runsR] at h
          simp at h
          rw [h.1]
      clear hFg hBg hi hlt hR
      go_wp2_with (fail)
      exact HQ.out _ _ _ _ _ _ _ _ _ _ _ _ _ _ _ _ _ _ _ _ _ _ _ _ _ _ _ _ _ _ _ _ _ _ _ _ _ _ _ _ _ _ _ _ _ _ _ _ _ _ _ _ _ _ _ _ _ _ _ (allR R) f g HR HF
set_option maxRecDepth 100000 in
set_option maxHeartbeats 4000000 in
theorem piecesOf_any (v : Value) (f : List UInt8) (w : World) (h : Rd w v f) (hl : f.length ≤ 100000) :
    Calls Try.prog 27 #[v] w fun e w' => ∃ u L, e = .returned u ∧ OwnR 5 w' w.heap.size 46 u (pcRows L) ∧ (∀ p ∈ L, p.Ok ∧ p.s.size ≤ 100000) ∧ L.length ≤ f.length ∧ (∀ R c, formR f = some (R, c) → L = allR R) ∧ Below w.heap.size w w' := by
  obtain ⟨A, c, hv, _, _, _⟩ := h.form
  subst hv
  have H := Lib.hid h
  have HL := Lib.hid hl
  obtain ⟨m, hm⟩ : ∃ m, m = f.length := ⟨_, rfl⟩
  have HM := Lib.hid hm
  rw [← hm] at H ⊢
  obtain ⟨W1, hW1⟩ : ∃ V, V = w.alloc (.cells #[.slice A m c] 25) := ⟨_, rfl⟩
  obtain ⟨W2, hW2⟩ : ∃ V, V = W1.alloc (.cells #[.bool true] 4) := ⟨_, rfl⟩
  have hs1 : W1.heap.size = w.heap.size + 1 := by rw [hW1]; exact World.size_alloc _ _
  have R2 : Hid (RO w f.length w.heap.size W1.heap.size [] (.slice none 0 0) f true W2) := Lib.hid (by
    refine ⟨⟨⟨_, by rw [hW2, hW1]; exact (Blk.made w _ _).alloc _, H.out⟩, ?_, ?_, ⟨Nat.le_refl _, by omega, by omega⟩⟩, OwnR.nil _ _ _ _, fun p hp => (by cases hp), by simp⟩
    · rw [hW2]
      exact Blk.made W1 _ _
    · rw [hW2, hW1]
      exact ((Below.refl _ w).alloc (Nat.le_refl _) _).alloc (by simp) _)
  have HW1 := Lib.hid hW1
  have HW2 := Lib.hid hW2
  clear hW1 hW2 h hl hm hs1
  go_enter Try.func27, Try.ntmps27
  go_wp2_with (fail)
  rw [← HW1.out]
  go_step3
  go_upto_region 4 with (fail)
  rw [← HW2.out]
  clear HW1 HW2
  obtain ⟨Z, hZ⟩ : ∃ Z, Z = W1.heap.size := ⟨_, rfl⟩
  rw [← hZ] at R2 ⊢
  clear hZ
  obtain ⟨k, hk⟩ : ∃ k, k = sN f := ⟨_, rfl⟩
  have hkl := (getS_all f).2.1
  have HC := Lib.hid (rshort_any w W2 w.heap.size Z f true R2.out.rv)
  rw [← hk] at hkl HC
  have HK := Lib.hid hkl
  have HF : Hid ((sB f = true → formR f = runsR k (dS f)) ∧ (sB f = false → formR f = none)) := Lib.hid ⟨fun h => by
    unfold formR
    rw [if_neg (by rw [(sB_iff f).1 h]; exact fun e => e rfl), hk]
    rfl, fun h => by
    unfold formR
    rw [if_pos fun e => by rw [(sB_iff f).2 e] at h; cases h]⟩
  have HDL := Lib.hid (dS_len f)
  clear hk hkl
  go_wp2_with (fail)
  go_step3
  go_wp2_with (fail)
  refine HC.out.mono ?_
  rintro e w3 ⟨rfl, r3, c3⟩
  rw [Bool.true_and] at r3
  have R3 := Lib.hid (R2.out.on r3 c3 HDL.out)
  clear r3 c3 HC R2
  go_wp2_with (fail)
  refine dpo_loop _ _ _ _ _ _ _ _ _ _ _ _ _ _ _ _ _ _ _ _ _ _ _ _ _ _ _ _ _ _ _ _ _ _ _ _ _ _ _ _ _ _ _ _ _ _ _ _ _ _ _ _ _ _ _ _ _ _ _ _ _ _ w w3 f.length w.heap.size Z k (formR f) (dS f) (sB f) HL HK R3 HF (Lib.hid ?_)
  intro u7 u8 u9 u10 u11 u12 u13 u14 u15 u21 u22 u23 u24 u25 u26 u27 u28 u29 u30 u31 u32 u33 u34 u35 u36 u37 u38 u39 u40 u41 u42 u43 u44 u45 u46 u47 u48 u49 u50 u51 u52 u53 u54 u55 u56 u57 u58 u59 u60 u61 u62 u63 u64 u65 u66 u67 vo y w4 L f' g' R4 HLR
  have HE : Hid (OwnR 5 w4 w.heap.size 46 vo (pcRows L) ∧ (∀ p ∈ L, p.Ok ∧ p.s.size ≤ 100000) ∧ L.length ≤ m ∧ (∀ R c, formR f = some (R, c) → L = allR R) ∧ Below w.heap.size w w4) := Lib.hid ⟨R4.out.own, R4.out.ok, by have := R4.out.few; have := HM.out; omega, HLR.out, R4.out.rv.low⟩
  clear R4 HLR
  go_wp2_with (fail)
  rw [Exit.noGoto_ret]
  go_ret
  exact ⟨vo, L, rfl, HE.out⟩
end Go.Proofs.Ytcicdbhffkpldaa
