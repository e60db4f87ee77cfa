/- Part 26 of the words that the laws share: DtRdS, DtRdI, DtFrI, DtFrm. No condition of its own: each theorem says its own. -/
import Derived.Test.YtcicdbhffkpldaaPart18
import Derived.Test.YtcicdbhffkpldaaPart21
import Derived.Test.YtcicdbhffkpldaaPart23
import Derived.Test.YtcicdbhffkpldaaPart25
import Derived.Test.YtcicdbhffkpldaaPart12
import Derived.Test.YtcicdbhffkpldaaPart2
import Derived.Test.YtcicdbhffkpldaaPart29
import Derived.Test.YtcicdbhffkpldaaPart16
import Derived.Test.YtcicdbhffkpldaaPart31
import Derived.Test.YtcicdbhffkpldaaPart20
import Derived.Deep.Cut

/- The developers' reader: what it holds while it reads. No condition of its own. -/
namespace Go.Proofs.Ytcicdbhffkpldaa
open Go.RowKit

/-- What is left behind a short form. -/
def dS (f : List UInt8) : List UInt8 := f.drop (sU f)
theorem dS_len (f : List UInt8) : (dS f).length ≤ f.length := by unfold dS; rw [List.length_drop]; omega
def goodP (f : List UInt8) : Bool := ((sB f && sB (dS f)) && sB (dS (dS f))) && decide (2 ≤ (dS (dS (dS f))).length)
theorem sB_iff (f : List UInt8) : sB f = true ↔ (getS f).2.2 = 0 := by unfold sB; rw [decide_eq_true_eq]
theorem pcS_yes {s : ByteArray} {t d v : Int} {f : List UInt8} (h : goodP f = true) : pcR s t d v f = some (⟨s, wr64 (t + wr64 (d + zagN (sN f))), wr64 (v + zagN (sN (dS f))), sN (dS (dS f)), numB ((dS (dS (dS f))).take 2)⟩, wr64 (d + zagN (sN f)), (dS (dS (dS f))).drop 2) := by
  unfold goodP at h
  simp only [Bool.and_eq_true, decide_eq_true_eq, sB_iff] at h
  obtain ⟨⟨⟨h1, h2⟩, h3⟩, h4⟩ := h
  have e1 : getS f = (sN f, sU f, 0) := by rw [← h1]; rfl
  have e2 : getS (f.drop (sU f)) = (sN (dS f), sU (dS f), 0) := by rw [← h2]; rfl
  have e3 : getS ((f.drop (sU f)).drop (sU (dS f))) = (sN (dS (dS f)), sU (dS (dS f)), 0) := by rw [← h3]; rfl
  exact pcR_5 e1 e2 e3 (by unfold dS at h4; unfold dS; omega)
theorem pcS_no {s : ByteArray} {t d v : Int} {f : List UInt8} (h : goodP f = false) : pcR s t d v f = none := by
  by_cases h1 : (getS f).2.2 = 0
  · have e1 : getS f = (sN f, sU f, 0) := by rw [← h1]; rfl
    by_cases h2 : (getS (dS f)).2.2 = 0
    · have e2 : getS (f.drop (sU f)) = (sN (dS f), sU (dS f), 0) := by rw [← h2]; rfl
      by_cases h3 : (getS (dS (dS f))).2.2 = 0
      · have e3 : getS ((f.drop (sU f)).drop (sU (dS f))) = (sN (dS (dS f)), sU (dS (dS f)), 0) := by rw [← h3]; rfl
        refine pcR_4 e1 e2 e3 ?_
        unfold goodP at h
        rw [(sB_iff _).2 h1, (sB_iff _).2 h2, (sB_iff _).2 h3, Bool.true_and, Bool.true_and, Bool.true_and, decide_eq_false_iff_not] at h
        exact Nat.lt_of_not_le h
      · exact pcR_3 e1 e2 (x3 := sN (dS (dS f))) (u3 := sU (dS (dS f))) (e3 := (getS (dS (dS f))).2.2) rfl h3
    · exact pcR_2 e1 (x2 := sN (dS f)) (u2 := sU (dS f)) (e2 := (getS (dS f)).2.2) rfl h2
  · exact pcR_1 (x := sN f) (u := sU f) (e := (getS f).2.2) rfl h1
theorem own_farR {w : World} {base B : Nat} {v : Value} {R : List (List Value)} {cs : List Value} {T : TypeId} (h : OwnR 5 w base 46 v R) (hb : Blk w B T cs) (hT : T ≠ 46) : v.ownBlock ≠ some B := fun e => by
  rcases h.2 with ⟨_, h2 | ⟨g, cap, cur, rfl, _, hg, _⟩⟩
  · rw [h2.1] at e
    cases e
  · injection e with e
    subst e
    unfold Blk at hb
    rw [hg] at hb
    injection hb with hb
    injection hb with _ h1
    exact hT h1.symm
/-- What is held: what is left, whether all was good, the pieces so far, the track. -/
structure RI (w0 : World) (N X Z Y : Nat) (L : List Pc) (vo : Value) (f : List UInt8) (g : Bool) (t d v : Int) (w : World) : Prop where
  rv : RV w0 w X Z f g
  own : OwnR 5 w w0.heap.size 46 vo (pcRows L)
  ok : ∀ p ∈ L, p.Ok ∧ p.s.size ≤ 100000
  few : L.length + f.length ≤ N
  trk : Blk w Y 61 (trk t d v)
  far : Y ≠ X ∧ Y ≠ Z ∧ w0.heap.size ≤ Y
theorem RI.on {w0 w w' : World} {N X Z Y : Nat} {L : List Pc} {vo : Value} {f f' : List UInt8} {g g' : Bool} {t d v : Int} (h : RI w0 N X Z Y L vo f g t d v w) (hr : RV w0 w' X Z f' g') (hc : Chg (fun k => k = X ∨ k = Z) w w') (hl : f'.length ≤ f.length) : RI w0 N X Z Y L vo f' g' t d v w' := by
  obtain ⟨vf, h1, _⟩ := h.rv.left
  refine ⟨hr, hc.ownR h.own fun k e hk => ?_, h.ok, by have := h.few; omega, hc.blk h.trk fun e => ?_, h.far⟩
  · rcases hk with rfl | rfl
    · exact own_farR h.own h1 (by decide) e
    · exact own_farR h.own h.rv.good (by decide) e
  · rcases e with e | e
    · exact h.far.1 e
    · exact h.far.2.1 e
theorem RI.hear {w0 w w' : World} {N X Z Y : Nat} {L : List Pc} {vo : Value} {f : List UInt8} {g : Bool} {t d v t' d' v' : Int} (h : RI w0 N X Z Y L vo f g t d v w) (hc : Chg (fun k => k = Y) w w') (hb : Blk w' Y 61 (Go.Proofs.Ytcicdbhffkpldaa.trk t' d' v')) : RI w0 N X Z Y L vo f g t' d' v' w' := by
  refine ⟨h.rv.chg hc (fun k e => by rw [e]; exact h.far.2.2) (Ne.symm h.far.1) (Ne.symm h.far.2.1), hc.ownR h.own fun k e hk => ?_, h.ok, h.few, hb, h.far⟩
  subst hk
  exact own_farR h.own h.trk (by decide) e
theorem RI.app {w0 w w' : World} {N X Z Y : Nat} {L : List Pc} {vo vo' : Value} {f : List UInt8} {g : Bool} {t d v : Int} {p : Pc} (h : RI w0 N X Z Y L vo f g t d v w) (hn : Next w w' w0.heap.size vo vo') (ho : OwnR 5 w' w0.heap.size 46 vo' (pcRows L ++ [p.vs])) (hp : p.Ok ∧ p.s.size ≤ 100000) (hl : L.length + 1 + f.length ≤ N) : RI w0 N X Z Y (L ++ [p]) vo' f g t d v w' := by
  obtain ⟨vf, h1, h2⟩ := h.rv.left
  have K : ∀ B T cs, T ≠ 46 → Blk w B T cs → Blk w' B T cs := fun B T cs hT hb => (hn.heap B hb.lt (Ne.symm (own_farR h.own hb hT))).trans hb
  refine ⟨⟨⟨vf, K _ _ _ (by decide) h1, h2⟩, K _ _ _ (by decide) h.rv.good, h.rv.low.trans hn.below, h.rv.ge⟩, by rw [pcRows_snoc]; exact ho, fun q hq => ?_, by rw [List.length_append, List.length_singleton]; exact hl, K _ _ _ (by decide) h.trk, h.far⟩
  rcases List.mem_append.1 hq with e | e
  · exact h.ok q e
  · rw [List.mem_singleton.1 e]
    exact hp
end Go.Proofs.Ytcicdbhffkpldaa

/- The developers' reader: its inner loop. Conditions: fewer than 2^20 bytes. -/
namespace Go.Proofs.Ytcicdbhffkpldaa
open Go.RowKit

theorem infPd : (Try.prog.info? 46).map (fun i => (i.zero, i.size, i.bytes)) = some (some (.agg #[.string ByteArray.empty, .int .i64 0, .int .i64 0, .int .u64 0, .int .u16 0]), 5, 48) := by kernel_rfl
/-- The number of a node, of two bytes, or none. -/
def nodeN (f : List UInt8) : Nat := if 2 ≤ f.length then numB (f.take 2) else 0
theorem nodeN_lt (f : List UInt8) : nodeN f < 65536 := by
  unfold nodeN
  split
  · rename_i h
    have h5 : (f.take 2).length = 2 := by rw [List.length_take]; omega
    match f.take 2, h5 with
    | [x, y], _ =>
      have := x.toNat_lt
      have := y.toNat_lt
      simp only [numB]
      omega
  · decide
theorem nodeC (v : Value) (f : List UInt8) (w : World) (h : Rd w v (f.take (if 2 ≤ f.length then 2 else 0))) : ∃ er : Nat, Calls Try.prog 26 #[v, .int .i64 2] w fun e w' => e = .returned (.tuple #[.int .u64 (nodeN f : Int), .int .i64 (er : Int)]) ∧ w = w' := by
  unfold nodeN
  split
  · rename_i h2
    rw [if_pos h2] at h
    have h5 : (f.take 2).length = 2 := by rw [List.length_take]; omega
    have h3 := get_yes v (f.take 2) 2 w h (by omega) (by omega) (by omega)
    rw [List.take_take] at h3
    exact ⟨0, h3⟩
  · rename_i h2
    rw [if_neg h2] at h
    exact ⟨2, get_no v _ 2 w h (by omega) (by omega) (by simp)⟩
noncomputable def body_dpi : Code := (((Try.f27.body.map loopsOf).getD [])[1]?).getD .skip
set_option maxRecDepth 100000 in
set_option maxHeartbeats 8000000 in
theorem dpi_loop (c0 c2 c9 c10 c11 c12 c13 c14 c15 c16 c17 c18 c19 c20 c21 c22 c23 c24 c25 c26 c27 c30 c31 c32 c33 c34 c35 c36 c37 c38 c39 c40 c41 c42 c43 c44 c45 c46 c47 c48 c49 c50 c51 c52 c53 c54 c55 c56 c57 c58 c59 c60 c61 c62 c63 c64 c65 c66 c67 c68 : Value) (w0 w1 : World) (N X Z Y : Nat) (pre : List Pc) (s : ByteArray) (k : Nat) (FR : Option ((ByteArray × List Pc) × List UInt8)) (BAD : Prop) (v0 : Value) (f0 : List UInt8) (g0 : Bool) (hN : Hid (N ≤ 1000000)) (hs : Hid (s.size ≤ 100000)) (hk : Hid (k < 18446744073709551616)) (h0 : Hid (RI w0 N X Z Y pre v0 f0 g0 0 0 0 w1)) (hF0 : Hid (g0 = true → FR = (rowR s k 0 0 0 f0).map fun q => ((s, q.1), q.2))) (hB : Hid (g0 = false → BAD)) (hBF : Hid (FR = none → BAD)) {Q : Exit → Act → World → Prop}
    (HQ : Hid (∀ (u9 u10 u11 u12 u13 u14 u15 u30 u31 u32 u33 u34 u35 u36 u37 u38 u39 u40 u41 u42 u43 u44 u45 u46 u47 u48 u49 u50 u51 u52 u53 u54 u55 u56 u57 u58 u59 u60 u61 u62 u63 u64 vo y : Value) (w' : World) (done : List Pc) (f : List UInt8) (g : Bool) (t d v : Int), Hid (RI w0 N X Z Y (pre ++ done) vo f g t d v w') → Hid ((g = true → FR = some ((s, done), f)) ∧ (g = false → BAD)) → Q (.exit 2) ⟨List.toArray (c0 :: (.pointer (some ⟨X, 0, none⟩)) :: c2 :: vo :: (.pointer (some ⟨Z, 0, none⟩)) :: (.func (.func 39) #[] #[.pointer (some ⟨X, 0, none⟩), .pointer (some ⟨Z, 0, none⟩)]) :: (.func (.func 41) #[] #[.pointer (some ⟨X, 0, none⟩), .pointer (some ⟨Z, 0, none⟩)]) :: (.string s) :: (.pointer (some ⟨Y, 0, none⟩)) :: u9 :: u10 :: u11 :: u12 :: u13 :: u14 :: u15 :: c16 :: c17 :: c18 :: c19 :: c20 :: c21 :: c22 :: c23 :: c24 :: c25 :: c26 :: c27 :: (.int .u64 (k : Int)) :: y :: u30 :: u31 :: u32 :: u33 :: u34 :: u35 :: u36 :: u37 :: u38 :: u39 :: u40 :: u41 :: u42 :: u43 :: u44 :: u45 :: u46 :: u47 :: u48 :: u49 :: u50 :: u51 :: u52 :: u53 :: u54 :: u55 :: u56 :: u57 :: u58 :: u59 :: u60 :: u61 :: u62 :: u63 :: u64 :: c65 :: c66 :: c67 :: c68 :: []), []⟩ w'))
    (HE : Hid (∀ (u9 u10 u11 u12 u13 u14 u15 u30 u31 u32 u33 u34 u35 u36 u37 u38 u39 u40 u41 u42 u43 u44 u45 u46 u47 u48 u49 u50 u51 u52 u53 u54 u55 u56 u57 u58 u59 u60 u61 u62 u63 u64 vo y : Value) (w' : World) (L : List Pc) (f : List UInt8) (g : Bool) (t d v : Int), Hid (RI w0 N X Z Y L vo f g t d v w') → Hid BAD → Q (.exit 0) ⟨List.toArray (c0 :: (.pointer (some ⟨X, 0, none⟩)) :: c2 :: vo :: (.pointer (some ⟨Z, 0, none⟩)) :: (.func (.func 39) #[] #[.pointer (some ⟨X, 0, none⟩), .pointer (some ⟨Z, 0, none⟩)]) :: (.func (.func 41) #[] #[.pointer (some ⟨X, 0, none⟩), .pointer (some ⟨Z, 0, none⟩)]) :: (.string s) :: (.pointer (some ⟨Y, 0, none⟩)) :: u9 :: u10 :: u11 :: u12 :: u13 :: u14 :: u15 :: c16 :: c17 :: c18 :: c19 :: c20 :: c21 :: c22 :: c23 :: c24 :: c25 :: c26 :: c27 :: (.int .u64 (k : Int)) :: y :: u30 :: u31 :: u32 :: u33 :: u34 :: u35 :: u36 :: u37 :: u38 :: u39 :: u40 :: u41 :: u42 :: u43 :: u44 :: u45 :: u46 :: u47 :: u48 :: u49 :: u50 :: u51 :: u52 :: u53 :: u54 :: u55 :: u56 :: u57 :: u58 :: u59 :: u60 :: u61 :: u62 :: u63 :: u64 :: c65 :: c66 :: c67 :: c68 :: []), []⟩ w')) :
    (Code.loop body_dpi).wp Try.prog Q ⟨List.toArray (c0 :: (.pointer (some ⟨X, 0, none⟩)) :: c2 :: v0 :: (.pointer (some ⟨Z, 0, none⟩)) :: (.func (.func 39) #[] #[.pointer (some ⟨X, 0, none⟩), .pointer (some ⟨Z, 0, none⟩)]) :: (.func (.func 41) #[] #[.pointer (some ⟨X, 0, none⟩), .pointer (some ⟨Z, 0, none⟩)]) :: (.string s) :: (.pointer (some ⟨Y, 0, none⟩)) :: c9 :: c10 :: c11 :: c12 :: c13 :: c14 :: c15 :: c16 :: c17 :: c18 :: c19 :: c20 :: c21 :: c22 :: c23 :: c24 :: c25 :: c26 :: c27 :: (.int .u64 (k : Int)) :: (.int .u64 ((0 : Nat) : Int)) :: c30 :: c31 :: c32 :: c33 :: c34 :: c35 :: c36 :: c37 :: c38 :: c39 :: c40 :: c41 :: c42 :: c43 :: c44 :: c45 :: c46 :: c47 :: c48 :: c49 :: c50 :: c51 :: c52 :: c53 :: c54 :: c55 :: c56 :: c57 :: c58 :: c59 :: c60 :: c61 :: c62 :: c63 :: c64 :: c65 :: c66 :: c67 :: c68 :: []), []⟩ w1 := by
  obtain ⟨ipc, hip, hipz, hips, hipb⟩ := inf_of infPd
  unfold body_dpi
  conv => arg 2; arg 1; whnf
  go_loopw [3, 29] (fun vo y wx => ∃ (i : Nat) (done : List Pc) (f : List UInt8) (g : Bool) (t d v : Int), y = .int .u64 (i : Int) ∧ i ≤ k ∧ RI w0 N X Z Y (pre ++ done) vo f g t d v wx ∧ (g = true → FR = (rowR s (k - i) t d v f).map fun q => ((s, done ++ q.1), q.2)) ∧ (g = false → BAD)) (fun _ y _ => k - (intOf y).toNat)
  case atStart => exact ⟨0, [], f0, g0, 0, 0, 0, rfl, Nat.zero_le _, by rw [List.append_nil]; exact h0.out, hF0.out, hB.out⟩
  case round =>
    obtain ⟨i, done, f, g, t, d, v, rfl, hi, hR, hFg, hBg⟩ := hrel
    have HR := Lib.hid hR
    have kb := hk.out
    by_cases hlt : i < k
    · have iI : (i : Int) < k := by omega
      have HLT := Lib.hid hlt
      have HFG := Lib.hid hFg
      have HBG := Lib.hid hBg
      have hx1 := (getS_all f).2.1
      have hx2 := (getS_all (dS f)).2.1
      have hx3 := (getS_all (dS (dS f))).2.1
      obtain ⟨x1, hx1'⟩ : ∃ x, x = sN f := ⟨_, rfl⟩
      obtain ⟨x2, hx2'⟩ : ∃ x, x = sN (dS f) := ⟨_, rfl⟩
      obtain ⟨x3, hx3'⟩ : ∃ x, x = sN (dS (dS f)) := ⟨_, rfl⟩
      rw [← hx1'] at hx1
      rw [← hx2'] at hx2
      rw [← hx3'] at hx3
      obtain ⟨f1, hf1⟩ : ∃ x, x = dS f := ⟨_, rfl⟩
      obtain ⟨f2, hf2⟩ : ∃ x, x = dS f1 := ⟨_, rfl⟩
      obtain ⟨f3, hf3⟩ : ∃ x, x = dS f2 := ⟨_, rfl⟩
      obtain ⟨gg1, hg1⟩ : ∃ x, x = (g && sB f) := ⟨_, rfl⟩
      obtain ⟨gg2, hg2⟩ : ∃ x, x = (gg1 && sB f1) := ⟨_, rfl⟩
      obtain ⟨gg3, hg3⟩ : ∃ x, x = (gg2 && sB f2) := ⟨_, rfl⟩
      obtain ⟨kk, hkk⟩ : ∃ x, x = (if 2 ≤ f3.length then 2 else 0) := ⟨_, rfl⟩
      obtain ⟨gg4, hg4⟩ : ∃ x, x = (gg3 && decide (2 ≤ f3.length)) := ⟨_, rfl⟩
      have l1 := dS_len f
      have l2 := dS_len f1
      have l3 := dS_len f2
      rw [← hf1] at l1
      rw [← hf2] at l2
      rw [← hf3] at l3
      obtain ⟨oo, hoo⟩ : ∃ x, x = nodeN f3 := ⟨_, rfl⟩
      have hoo1 : oo < 65536 := hoo ▸ nodeN_lt f3
      have LL : Hid (f1.length ≤ f.length ∧ f2.length ≤ f1.length ∧ f3.length ≤ f2.length) := Lib.hid ⟨l1, l2, l3⟩
      have hfl : f3.length ≤ 1000000 := by have := hR.few; have := hN.out; omega
      have HFL := Lib.hid hfl
      have C1 : Hid (∀ W, RV w0 W X Z f g → Calls Try.prog 39 #[.pointer (some ⟨X, 0, none⟩), .pointer (some ⟨Z, 0, none⟩)] W fun e w' => e = .returned (.int .u64 (x1 : Int)) ∧ RV w0 w' X Z f1 gg1 ∧ Chg (fun k => k = X ∨ k = Z) W w') := Lib.hid fun W h => by
        rw [hx1', hf1, hg1]
        exact rshort_any w0 W X Z f g h
      have C2 : Hid (∀ W, RV w0 W X Z f1 gg1 → Calls Try.prog 39 #[.pointer (some ⟨X, 0, none⟩), .pointer (some ⟨Z, 0, none⟩)] W fun e w' => e = .returned (.int .u64 (x2 : Int)) ∧ RV w0 w' X Z f2 gg2 ∧ Chg (fun k => k = X ∨ k = Z) W w') := Lib.hid fun W h => by
        rw [hx2', ← hf1, hf2, hg2]
        exact rshort_any w0 W X Z f1 gg1 h
      have C3 : Hid (∀ W, RV w0 W X Z f2 gg2 → Calls Try.prog 39 #[.pointer (some ⟨X, 0, none⟩), .pointer (some ⟨Z, 0, none⟩)] W fun e w' => e = .returned (.int .u64 (x3 : Int)) ∧ RV w0 w' X Z f3 gg3 ∧ Chg (fun k => k = X ∨ k = Z) W w') := Lib.hid fun W h => by
        rw [hx3', ← hf1, ← hf2, hf3, hg3]
        exact rshort_any w0 W X Z f2 gg2 h
      have C4 : Hid (∀ W, RV w0 W X Z f3 gg3 → Calls Try.prog 41 #[.int .u64 2, .pointer (some ⟨X, 0, none⟩), .pointer (some ⟨Z, 0, none⟩)] W fun e w' => ∃ vt, e = .returned vt ∧ Rd w0 vt (f3.take kk) ∧ RV w0 w' X Z (f3.drop kk) gg4 ∧ Chg (fun k => k = X ∨ k = Z) W w') := Lib.hid fun W h => by
        rw [hg4]
        exact rtake_any w0 W X Z f3 gg3 h 2 kk (by decide) (by omega) hkk
      have C5 : Hid (∀ (W : World) (vt : Value), Rd W vt (f3.take kk) → ∃ er : Nat, Calls Try.prog 26 #[vt, .int .i64 2] W fun e w' => e = .returned (.tuple #[.int .u64 (oo : Int), .int .i64 (er : Int)]) ∧ W = w') := Lib.hid fun W vt h => by
        rw [hoo]
        rw [hkk] at h
        exact nodeC vt f3 W h
      have HX1 : Hid ((x1 : Int) ≤ 18446744073709551615) := Lib.hid (by omega)
      have HX2 : Hid ((x2 : Int) ≤ 18446744073709551615) := Lib.hid (by omega)
      obtain ⟨zz1, hz1⟩ : ∃ z, z = zagN x1 := ⟨_, rfl⟩
      obtain ⟨zz2, hz2⟩ : ∃ z, z = zagN x2 := ⟨_, rfl⟩
      have HZ1 := Lib.hid hz1
      have HZ2 := Lib.hid hz2
      obtain ⟨dd, hdd⟩ : ∃ z, z = wr64 (d + zz1) := ⟨_, rfl⟩
      obtain ⟨tt, htt⟩ : ∃ z, z = wr64 (t + dd) := ⟨_, rfl⟩
      obtain ⟨vv, hvv⟩ : ∃ z, z = wr64 (v + zz2) := ⟨_, rfl⟩
      have C6 : Hid (∀ W, Blk W Y 61 (trk t d v) → Calls Try.prog 43 #[.pointer (some ⟨Y, 0, none⟩), .int .i64 zz1, .int .i64 zz2] W fun e w' => e = .returned (.tuple #[.int .i64 tt, .int .i64 vv]) ∧ Blk w' Y 61 (trk tt dd vv) ∧ Chg (fun k => k = Y) W w') := Lib.hid fun W h => by
        rw [hvv, htt, hdd]
        exact hear_any zz1 zz2 t d v Y W h
      have HYES : Hid (gg4 = true → g = true ∧ pcR s t d v f = some (⟨s, tt, vv, x3, oo⟩, dd, f3.drop kk) ∧ kk = 2 ∧ 2 ≤ f3.length) := Lib.hid fun h => by
        rw [hg4, hg3, hg2, hg1] at h
        simp only [Bool.and_eq_true, decide_eq_true_eq] at h
        obtain ⟨⟨⟨⟨a1, a2⟩, a3⟩, a4⟩, a5⟩ := h
        have hk2 : kk = 2 := by rw [hkk, if_pos a5]
        refine ⟨a1, ?_, hk2, a5⟩
        have hgp : goodP f = true := by
          unfold goodP
          rw [← hf1, ← hf2, ← hf3, a2, a3, a4, decide_eq_true a5]
          rfl
        have e := pcS_yes (s := s) (t := t) (d := d) (v := v) hgp
        rw [← hf1, ← hf2, ← hf3] at e
        rw [e, hk2, hoo, nodeN, if_pos a5, htt, hvv, hdd, hz1, hz2, hx1', hx2', hx3', ← hf1, ← hf2]
      have HNO : Hid (gg4 = false → BAD) := Lib.hid fun h => by
        cases g with
        | false => exact HBG.out rfl
        | true =>
          refine hBF.out ?_
          have hgp : goodP f = false := by
            unfold goodP
            rw [← hf1, ← hf2, ← hf3]
            rw [hg4, hg3, hg2, hg1, Bool.true_and] at h
            exact h
          obtain ⟨m, hm⟩ : ∃ m, k - i = m + 1 := ⟨k - i - 1, by omega⟩
          rw [HFG.out rfl, hm, rowR, pcS_no hgp]
          rfl
      have HOO := Lib.hid hoo1
      have ow : IntKind.u16.wrap (oo : Int) = (oo : Int) := by
        rw [IntKind.wrap_u16]
        omega
      clear hx1' hx2' hx3' hf1 hf2 hf3 hg1 hg2 hg3 hkk hg4 l1 l2 l3 hoo hoo1 hx1 hx2 hx3 hfl hdd htt hvv hz1 hz2 hR hFg hBg hi hlt
      go_wp2_with (fail)
      refine (C1.out _ HR.out.rv).mono ?_
      rintro e w2 ⟨rfl, r2, c2⟩
      have R2 := Lib.hid (HR.out.on r2 c2 LL.out.1)
      clear r2 c2 C1
      go_wp2_with (fail)
      refine (zag_any x1 HX1.out _).mono ?_
      rintro e w' ⟨rfl, hw'⟩
      subst hw'
      rw [← HZ1.out]
      go_wp2_with (fail)
      refine (C2.out _ R2.out.rv).mono ?_
      rintro e w3 ⟨rfl, r3, c3⟩
      have R3 := Lib.hid (R2.out.on r3 c3 LL.out.2.1)
      clear r3 c3 C2 R2
      go_wp2_with (fail)
      refine (zag_any x2 HX2.out _).mono ?_
      rintro e w' ⟨rfl, hw'⟩
      subst hw'
      rw [← HZ2.out]
      go_wp2_with (fail)
      refine (C3.out _ R3.out.rv).mono ?_
      rintro e w4 ⟨rfl, r4, c4⟩
      have R4 := Lib.hid (R3.out.on r4 c4 LL.out.2.2)
      clear r4 c4 C3 R3
      go_wp2_with (fail)
      refine (C4.out _ R4.out.rv).mono ?_
      rintro e w5 ⟨vt, rfl, rd5, r5, c5⟩
      have R5 := Lib.hid (R4.out.on r5 c5 (by rw [List.length_drop]; omega))
      obtain ⟨er, hget⟩ := C5.out w5 vt (rd5.below R5.out.rv.low)
      have HGET := Lib.hid hget
      clear r5 c5 C4 R4 rd5 hget C5
      go_wp2_with (fail)
      refine HGET.out.mono ?_
      rintro e w' ⟨rfl, hw'⟩
      subst hw'
      go_wp2_with (fail)
      refine (C6.out _ R5.out.trk).mono ?_
      rintro e w6 ⟨rfl, y6, c6⟩
      have R6 := Lib.hid (R5.out.hear c6 y6)
      have c0 : w6.cell? ⟨Z, 0, none⟩ = some (.bool gg4) := R6.out.rv.good.cell 0
      clear y6 c6 C6 R5 HGET
      cases gg4 with
      | false =>
        have HB' := Lib.hid (HNO.out rfl)
        go_wp2_with (fail)
        exact HE.out _ _ _ _ _ _ _ _ _ _ _ _ _ _ _ _ _ _ _ _ _ _ _ _ _ _ _ _ _ _ _ _ _ _ _ _ _ _ _ _ _ _ _ _ _ _ _ _ _ _ _ R6 HB'
      | true =>
        obtain ⟨y1, y2, y3, y4⟩ := HYES.out rfl
        subst y1
        subst y3
        have hsm : s.size ≤ maxLen := by have := hs.out; unfold maxLen; omega
        have HOK : Hid (Pc.Ok ⟨s, tt, vv, x3, oo⟩) := Lib.hid (pcR_is hsm y2).2.1
        have HNX : Hid (FR = (rowR s (k - (i + 1)) tt dd vv (f3.drop 2)).map fun q => ((s, (done ++ [⟨s, tt, vv, x3, oo⟩]) ++ q.1), q.2)) := Lib.hid (by
          have hlt := HLT.out
          obtain ⟨m, hm⟩ : ∃ m, k - i = m + 1 := ⟨k - i - 1, by omega⟩
          have hm2 : k - (i + 1) = m := by omega
          rw [HFG.out rfl, hm, hm2, rowR, y2]
          simp only
          cases rowR s m tt dd vv (f3.drop 2) with
          | none => rfl
          | some q => simp)
        have HLN : Hid ((pre ++ done).length + 1 + (f3.drop 2).length ≤ N) := Lib.hid (by
          have h1 := HR.out.few
          have h2 := LL.out
          rw [List.length_drop]
          omega)
        have HLB : Hid ((pre ++ done).length + 1 ≤ 1000000) := Lib.hid (by have := HLN.out; have := hN.out; omega)
        have iw : IntKind.u64.wrap ((i : Int) + 1) = ((i + 1 : Nat) : Int) := by
          have := HLT.out
          rw [IntWalk.u64_in _ (by omega)]
          omega
        clear y2 y4 hsm HYES HNO HFG HBG c0
        have c0 : w6.cell? ⟨Z, 0, none⟩ = some (.bool true) := R6.out.rv.good.cell 0
        go_wp2_with (with_reducible refine here_apd ?_
                     refine wpList_append_elR _ [.string s, .int .i64 tt, .int .i64 vv, .int .u64 (x3 : Int), .int .u16 (oo : Int)] 46 rfl (.tmp 53) (.tmp 62) _ rfl w0.heap.size 46 ipc _ 5 48 Try.underlying22 hip hipz hips hipb rfl (by decide) _ _ rfl R6.out.own rfl (by intro u hu; simp only [List.mem_cons, List.not_mem_nil, or_false] at hu; rcases hu with rfl | rfl | rfl | rfl | rfl <;> rfl) rfl (by have h := HLB.out; rw [pcRows_len]; unfold maxLen; omega) (by have h := HLB.out; rw [pcRows_len]; omega) R6.out.rv.low.size ?_
                     intro v7 w7 own7 nx7
                     have R7 := Lib.hid (R6.out.app (p := ⟨s, tt, vv, x3, oo⟩) nx7 own7 ⟨HOK.out, hs.out⟩ HLN.out)
                     clear own7 nx7
                     go_frame)
        have hlt := HLT.out
        refine ⟨⟨i + 1, done ++ [⟨s, tt, vv, x3, oo⟩], f3.drop 2, true, tt, dd, vv, by first | rfl | go_num, by omega, by rw [← List.append_assoc]; exact R7.out, fun _ => HNX.out, fun h => (by cases h)⟩, by simp [intOf]; omega⟩
    · have e : i = k := by omega
      subst e
      have HF : Hid ((g = true → FR = some ((s, done), f)) ∧ (g = false → BAD)) := Lib.hid ⟨fun h => by
        rw [hFg h, Nat.sub_self, rowR]
        simp, hBg⟩
      clear hFg hBg hi hlt hR
      go_wp2_with (fail)
      exact HQ.out _ _ _ _ _ _ _ _ _ _ _ _ _ _ _ _ _ _ _ _ _ _ _ _ _ _ _ _ _ _ _ _ _ _ _ _ _ _ _ _ _ _ _ _ _ done f g t d v HR HF
end Go.Proofs.Ytcicdbhffkpldaa

/- The developers' formOf: a row's pieces, one behind the other. Conditions: a row of pieces; what is laid is short. -/
namespace Go.Proofs.Ytcicdbhffkpldaa
open Go.RowKit

theorem FV.below {w0 w w' : World} {X : Nat} {xs : List UInt8} (h : FV w0 w X xs) (hb : Below w.heap.size w w') : FV w0 w' X xs := by
  obtain ⟨v, h1, h2⟩ := h.ex
  exact ⟨⟨v, h1.below hb h1.lt, h2.on hb⟩, h.low⟩
theorem FV.chg {w0 w w' : World} {X Y : Nat} {T : TypeId} {cs : List Value} {xs : List UInt8} (h : FV w0 w X xs) (hc : Chg (fun k => k = Y) w w') (hX : X ≠ Y) (hY : w0.heap.size ≤ Y) (hb : Blk w Y T cs) (hT : T ≠ 5) : FV w0 w' X xs := by
  obtain ⟨v, h1, h2⟩ := h.ex
  have hne := own_far h2.own hb hT
  refine ⟨⟨v, hc.blk h1 hX, ⟨?_, h2.low.trans (hc.below (fun k e => by rw [e]; exact hY) h2.low.size)⟩⟩, h.low⟩
  rcases h2.own with ⟨g1, g2 | ⟨g, cap, cur, rfl, hb2, hg, g3⟩⟩
  · exact ⟨g1, .inl g2⟩
  · have hlt : g < w.heap.size := by
      rcases Nat.lt_or_ge g w.heap.size with h | h
      · exact h
      · rw [Array.getElem?_eq_none h] at hg; cases hg
    exact ⟨g1, .inr ⟨g, cap, cur, rfl, hb2, (hc.keep g hlt fun e => hne (by rw [← e]; rfl)).trans hg, g3⟩⟩
theorem zigD (z : Int) (n : Nat) (hn : n = zigN z) (h : -9223372036854775808 ≤ z ∧ z ≤ 9223372036854775807) (W : World) : Calls Try.prog 35 #[.int .i64 z] W fun e W' => e = .returned (.int .u64 (n : Int)) ∧ W' = W := by
  rw [hn]
  exact zig_any z h W
noncomputable def body_dfi : Code := (((Try.f20.body.map loopsOf).getD [])[1]?).getD .skip
set_option maxRecDepth 100000 in
set_option maxHeartbeats 8000000 in
theorem dfi_loop (c0 c1 c2 c3 c6 c7 c9 c10 c11 c12 c13 c14 c15 c16 c17 c18 c19 c20 c21 c22 c23 c24 c25 c26 c27 c28 c29 c30 c31 c32 c33 c34 c35 c36 c37 c38 c39 c40 c41 c42 c43 c44 c45 c49 c50 c51 c52 c53 c54 c55 c56 c57 c58 c59 c60 c61 c62 c63 c64 c65 c66 c67 c68 c69 c70 c71 c72 c73 c74 c75 c76 c77 c78 c79 : Value) (w1 w : World) (A : Option Addr) (c m X Y : Nat) (row : List Pc) (hm : Hid (m = row.length)) (h0 : Hid (RsP w1 (.slice A row.length c) row)) (hml : Hid (row.length ≤ 100000)) (TOT xs0 : List UInt8) (HT : Hid (TOT = xs0 ++ pcsB 0 0 0 row)) (HTL : Hid (TOT.length ≤ 1000000)) (HYX : Hid (Y ≠ X ∧ w1.heap.size ≤ Y)) (hF : Hid (FV w1 w X xs0)) (hY : Hid (Blk w Y 61 (trk 0 0 0))) {Q : Exit → Act → World → Prop}
    (HQ : Hid (∀ (u10 u11 u12 u49 u50 u51 u52 u53 u54 u55 u56 u57 u58 u59 u60 u61 u62 u63 u64 u65 u66 u67 u68 u69 u70 u71 u72 u73 u74 u75 u76 u77 y : Value) (w' : World), Hid (FV w1 w' X TOT) → Q (.exit 2) ⟨List.toArray (c0 :: c1 :: c2 :: c3 :: (.pointer (some ⟨X, 0, none⟩)) :: (.func (.func 32) #[] #[.pointer (some ⟨X, 0, none⟩)]) :: c6 :: c7 :: (.pointer (some ⟨Y, 0, none⟩)) :: c9 :: u10 :: u11 :: u12 :: c13 :: c14 :: c15 :: c16 :: c17 :: c18 :: c19 :: c20 :: c21 :: c22 :: c23 :: c24 :: c25 :: c26 :: c27 :: c28 :: c29 :: c30 :: c31 :: c32 :: c33 :: c34 :: c35 :: c36 :: c37 :: c38 :: c39 :: c40 :: c41 :: c42 :: c43 :: c44 :: c45 :: (.slice A m c) :: (.int .i64 (m : Int)) :: y :: u49 :: u50 :: u51 :: u52 :: u53 :: u54 :: u55 :: u56 :: u57 :: u58 :: u59 :: u60 :: u61 :: u62 :: u63 :: u64 :: u65 :: u66 :: u67 :: u68 :: u69 :: u70 :: u71 :: u72 :: u73 :: u74 :: u75 :: u76 :: u77 :: c78 :: c79 :: []), []⟩ w')) :
    (Code.loop body_dfi).wp Try.prog Q ⟨List.toArray (c0 :: c1 :: c2 :: c3 :: (.pointer (some ⟨X, 0, none⟩)) :: (.func (.func 32) #[] #[.pointer (some ⟨X, 0, none⟩)]) :: c6 :: c7 :: (.pointer (some ⟨Y, 0, none⟩)) :: c9 :: c10 :: c11 :: c12 :: c13 :: c14 :: c15 :: c16 :: c17 :: c18 :: c19 :: c20 :: c21 :: c22 :: c23 :: c24 :: c25 :: c26 :: c27 :: c28 :: c29 :: c30 :: c31 :: c32 :: c33 :: c34 :: c35 :: c36 :: c37 :: c38 :: c39 :: c40 :: c41 :: c42 :: c43 :: c44 :: c45 :: (.slice A m c) :: (.int .i64 (m : Int)) :: (.int .i64 0) :: c49 :: c50 :: c51 :: c52 :: c53 :: c54 :: c55 :: c56 :: c57 :: c58 :: c59 :: c60 :: c61 :: c62 :: c63 :: c64 :: c65 :: c66 :: c67 :: c68 :: c69 :: c70 :: c71 :: c72 :: c73 :: c74 :: c75 :: c76 :: c77 :: c78 :: c79 :: []), []⟩ w := by
  obtain ⟨i0, hi, hz0, hz1, hz2⟩ := info_parts info_u8
  unfold body_dfi
  conv => arg 2; arg 1; whnf
  go_loopw [48] (fun y wx => ∃ (j : Nat) (a d v : Int) (xs : List UInt8), y = .int .i64 (j : Int) ∧ j ≤ m ∧ FV w1 wx X xs ∧ Blk wx Y 61 (trk a d v) ∧ xs ++ pcsB a d v (row.drop j) = TOT) (fun y _ => m - (intOf y).toNat)
  case atStart => exact ⟨0, 0, 0, 0, xs0, rfl, Nat.zero_le _, hF.out, hY.out, by rw [HT.out]; rfl⟩
  case round =>
    obtain ⟨j, a, d, v, xs, rfl, hj, hf, hy, hxs⟩ := hrel
    have HF0 := Lib.hid hf
    have HY0 := Lib.hid hy
    have hmm := hm.out
    have pI : (m : Int) ≤ 100000 := by have := hml.out; omega
    by_cases hlt : j < m
    · have jI : (j : Int) < m := by omega
      have HLT : Hid (j + 1 ≤ m) := Lib.hid hlt
      obtain ⟨p, hp⟩ : ∃ p, row[j]? = some p := ⟨_, List.getElem?_eq_getElem (by omega)⟩
      obtain ⟨vf, hvf, hof⟩ := hf.ex
      obtain ⟨g, o, rfl, hg, hr, hok⟩ := (h0.out.below hof.low).at2 hp
      obtain ⟨k0, k1, k2, k3, k4⟩ := range5 hr
      have hdr : row.drop j = p :: row.drop (j + 1) := by
        obtain ⟨hj2, e2⟩ := List.getElem?_eq_some_iff.1 hp
        rw [List.drop_eq_getElem_cons hj2, e2]
      rw [hdr, pcsB] at hxs
      have hbt := wf_i64 hok.t
      have hbv := wf_i64 hok.v
      have hbn := hok.n
      have hbo := hok.o
      obtain ⟨nn, hnn⟩ : ∃ n, n = p.n := ⟨_, rfl⟩
      obtain ⟨oo, hoo⟩ : ∃ n, n = p.o := ⟨_, rfl⟩
      rw [← hnn] at hbn hxs k3
      rw [← hoo] at hbo hxs k4
      obtain ⟨d', hd'⟩ : ∃ z, z = wr64 (p.t - a) := ⟨_, rfl⟩
      obtain ⟨z1, hz1'⟩ : ∃ z, z = wr64 (wr64 (p.t - a) - d) := ⟨_, rfl⟩
      obtain ⟨z2, hz2'⟩ : ∃ z, z = wr64 (p.v - v) := ⟨_, rfl⟩
      have hzr1 : -9223372036854775808 ≤ z1 ∧ z1 ≤ 9223372036854775807 := hz1' ▸ wr64_in _
      have hzr2 : -9223372036854775808 ≤ z2 ∧ z2 ≤ 9223372036854775807 := hz2' ▸ wr64_in _
      rw [← hz1', ← hz2', ← hd'] at hxs
      obtain ⟨n1, hn1⟩ : ∃ n, n = zigN z1 := ⟨_, rfl⟩
      obtain ⟨n2, hn2⟩ : ∃ n, n = zigN z2 := ⟨_, rfl⟩
      rw [← hn1, ← hn2] at hxs
      have hnl1 : n1 < 18446744073709551616 := hn1 ▸ zig_lt hzr1
      have hnl2 : n2 < 18446744073709551616 := hn2 ▸ zig_lt hzr2
      have HZ1 := Lib.hid (zigD z1 n1 hn1 hzr1)
      have HZ2 := Lib.hid (zigD z2 n2 hn2 hzr2)
      have HN : Hid (n1 < 18446744073709551616 ∧ n2 < 18446744073709551616 ∧ nn < 18446744073709551616 ∧ oo < 65536) := Lib.hid ⟨hnl1, hnl2, hbn, hbo⟩
      have HXS : Hid (((((xs ++ sh n1) ++ sh n2) ++ sh nn) ++ leB 2 oo) ++ pcsB p.t d' p.v (row.drop (j + 1)) = TOT) := Lib.hid (by rw [← hxs]; simp only [List.append_assoc])
      have HLEN : Hid (((((xs ++ sh n1) ++ sh n2) ++ sh nn) ++ leB 2 oo).length ≤ 1000000) := Lib.hid (by
        have h1 := congrArg List.length HXS.out
        have h2 := HTL.out
        rw [List.length_append] at h1
        omega)
      obtain ⟨W1, hW1⟩ : ∃ V, V = wr.alloc (.cells #[.string p.s, .int .i64 p.t, .int .i64 p.v, .int .u64 (nn : Int), .int .u16 (oo : Int)] 46) := ⟨_, rfl⟩
      have HP1 : Hid (Blk W1 wr.heap.size 46 [.string p.s, .int .i64 p.t, .int .i64 p.v, .int .u64 (nn : Int), .int .u16 (oo : Int)]) := Lib.hid (by rw [hW1]; exact Blk.made wr _ _)
      have HF1 : Hid (FV w1 W1 X xs) := Lib.hid (by rw [hW1]; exact hf.below ((Below.refl _ _).alloc (Nat.le_refl _) _))
      have hy1 : Blk W1 Y 61 (trk a d v) := by rw [hW1]; exact hy.alloc _
      have HY1 := Lib.hid hy1
      have hPX : wr.heap.size ≠ X := by have := hvf.lt; omega
      have hPY : wr.heap.size ≠ Y := by have := hy.lt; omega
      have HPX := Lib.hid hPX
      have HPY := Lib.hid hPY
      have HTE : Hid (Calls Try.prog 34 #[.pointer (some ⟨Y, 0, none⟩), .agg #[.string p.s, .int .i64 p.t, .int .i64 p.v, .int .u64 (nn : Int), .int .u16 (oo : Int)]] W1 fun e w' => e = .returned (.tuple #[.int .i64 z1, .int .i64 z2]) ∧ Blk w' Y 61 (trk p.t d' p.v) ∧ Chg (fun k => k = Y) W1 w') := Lib.hid (by
        have h := tell_any p a d v Y W1 hy1
        rw [← hnn, ← hoo, ← hd'] at h
        rw [← hd'] at hz1'
        rw [← hz1', ← hz2'] at h
        exact h)
      have q0 : W1.cell? ⟨wr.heap.size, 0, none⟩ = some (.string p.s) := HP1.out.cell 0
      have q1 : W1.cell? ⟨wr.heap.size, 1, none⟩ = some (.int .i64 p.t) := HP1.out.cell 1
      have q2 : W1.cell? ⟨wr.heap.size, 2, none⟩ = some (.int .i64 p.v) := HP1.out.cell 2
      have q3 : W1.cell? ⟨wr.heap.size, 3, none⟩ = some (.int .u64 (nn : Int)) := HP1.out.cell 3
      have q4 : W1.cell? ⟨wr.heap.size, 4, none⟩ = some (.int .u16 (oo : Int)) := HP1.out.cell 4
      clear hr hok hg hvf hof hf hy hy1 hxs hdr hp hbt hbv hbn hbo hnn hoo hd' hz1' hz2' hzr1 hzr2 hn1 hn2 hnl1 hnl2 hPX hPY hmm hlt hj
      go_upto_region 15 with (fail)
      rw [← hW1]
      clear hW1 k0 k1 k2 k3 k4
      go_wp2_with (fail)
      refine HTE.out.mono ?_
      rintro e w2 ⟨rfl, hy2, hc2⟩
      have HY2 := Lib.hid hy2
      have HP2 := Lib.hid (hc2.blk HP1.out HPY.out)
      have HF2 := Lib.hid (HF1.out.chg hc2 HYX.out.1.symm HYX.out.2 HY1.out (by decide))
      clear hy2 hc2 HTE q0 q1 q2 q3 q4 HF1 HY1 HP1
      go_wp2_with (fail)
      refine (HZ1.out _).mono ?_
      rintro e w' ⟨rfl, hw'⟩
      subst hw'
      go_wp2_with (fail)
      refine (short_any w1 _ X xs n1 HF2.out HN.out.1 (by have h := HLEN.out; simp only [List.length_append] at h; omega)).mono ?_
      rintro e w3 ⟨rfl, hf3, hk3⟩
      have HF3 := Lib.hid hf3
      have HY3 := Lib.hid (hk3.blk Y _ _ (by decide) HYX.out.1 HY2.out)
      have HP3 := Lib.hid (hk3.blk _ _ _ (by decide) HPX.out HP2.out)
      clear hf3 hk3 HF2 HY2 HP2
      go_wp2_with (fail)
      refine (HZ2.out _).mono ?_
      rintro e w' ⟨rfl, hw'⟩
      subst hw'
      go_wp2_with (fail)
      refine (short_any w1 _ X (xs ++ sh n1) n2 HF3.out HN.out.2.1 (by have h := HLEN.out; simp only [List.length_append] at h ⊢; omega)).mono ?_
      rintro e w4 ⟨rfl, hf4, hk4⟩
      have HF4 := Lib.hid hf4
      have HY4 := Lib.hid (hk4.blk Y _ _ (by decide) HYX.out.1 HY3.out)
      have HP4 := Lib.hid (hk4.blk _ _ _ (by decide) HPX.out HP3.out)
      clear hf4 hk4 HF3 HY3 HP3
      have q3 : w4.cell? ⟨wr.heap.size, 3, none⟩ = some (.int .u64 (nn : Int)) := HP4.out.cell 3
      go_wp2_with (fail)
      refine (short_any w1 _ X ((xs ++ sh n1) ++ sh n2) nn HF4.out HN.out.2.2.1 (by have h := HLEN.out; simp only [List.length_append] at h ⊢; omega)).mono ?_
      rintro e w5 ⟨rfl, hf5, hk5⟩
      have HY5 := Lib.hid (hk5.blk Y _ _ (by decide) HYX.out.1 HY4.out)
      have HP5 := Lib.hid (hk5.blk _ _ _ (by decide) HPX.out HP4.out)
      obtain ⟨xs5, hx5⟩ : ∃ x, x = ((xs ++ sh n1) ++ sh n2) ++ sh nn := ⟨_, rfl⟩
      rw [← hx5] at hf5 HXS HLEN
      obtain ⟨v5, hX5, hob5⟩ := hf5.ex
      obtain ⟨A5, c5, e5, _⟩ := row_form hob5.own
      subst e5
      obtain ⟨na, hna⟩ : ∃ k, k = xs5.length := ⟨_, rfl⟩
      rw [← hna] at hX5 hob5
      have HX := Lib.hid hX5
      have OBV := Lib.hid hob5
      have HLE := Lib.hid hf5.low
      have HY : Hid (0 < (leB 2 oo).length ∧ xs5.length + (leB 2 oo).length ≤ 140737488355328) := Lib.hid (by have h := HLEN.out; rw [List.length_append] at h; rw [leB_length] at h ⊢; omega)
      have PutC : Hid (∀ W, Calls Try.prog 21 #[.slice none 0 0, .int .u64 (oo : Int), .int .i64 2] W (Own W 5 (leB 2 oo))) := Lib.hid fun W => put_yes _ [] oo 2 W (Rd.nil W) (by simp) (by have := HN.out.2.2.2; omega) (by omega) (by omega)
      have ow : IntKind.u64.wrap (oo : Int) = (oo : Int) := IntWalk.u64_in _ (by have := HN.out.2.2.2; omega)
      have DB : Hid (Below w5.heap.size w5 w5.drew) := Lib.hid (below_drewN (Below.refl _ _) 1)
      have c0 : w5.cell? ⟨X, 0, none⟩ = some (.slice A5 na c5) := hX5.cell 0
      clear hf5 hk5 HF4 HY4 HP4 q3 hX5 hob5 hna hx5 HZ1 HZ2
      go_wp2_with (fail)
      refine wp_region_noPanic ?_
      refine wp_region_held_drew (S := fun V => Blk V wr.heap.size 46 [.string p.s, .int .i64 p.t, .int .i64 p.v, .int .u64 (nn : Int), .int .u16 (oo : Int)]) (by kernel_rfl) HP5.out.drew (fun hHeld => ?_)
      refine take_put (i := 1) (oi := _) (v := ?_) 71 rfl rfl (by kernel_rfl) (by kernel_rfl) (by kernel_rfl) (fun _ _ _ h => h) (Or.inl ⟨by rfl, ?hy1⟩) hHeld ?_
      case hy1 => ((intro W hSw); (have hC := hSw.cell 4); clear hSw; go_simp; try (with_reducible rfl))
      simp only [List.set_cons_zero, List.set_cons_succ]
      refine take_put (i := 2) (oi := _) (v := ?_) 72 rfl rfl (by kernel_rfl) (by kernel_rfl) (by kernel_rfl) (fun _ _ _ h => h) (Or.inl ⟨by rfl, ?hy2⟩) hHeld ?_
      case hy2 => ((intro W hSw); (have hC := hSw.cell 4); clear hSw; go_simp; try (with_reducible rfl))
      simp only [List.set_cons_zero, List.set_cons_succ]
      refine take_put (i := 3) (oi := _) (v := ?_) 73 rfl rfl (by kernel_rfl) (by kernel_rfl) (by kernel_rfl) (fun _ _ _ h => h) (Or.inl ⟨by rfl, ?hy3⟩) hHeld ?_
      case hy3 => ((intro W hSw); (have hC := hSw.cell 4); clear hSw; go_simp; try (with_reducible rfl))
      simp only [List.set_cons_zero, List.set_cons_succ]
      refine take_put (i := 4) (oi := _) (v := ?_) 74 rfl rfl (by kernel_rfl) (by kernel_rfl) (by kernel_rfl) (fun _ _ _ h => h) (Or.inl ⟨by rfl, ?hy4⟩) hHeld ?_
      case hy4 => ((intro W hSw); (have hC := hSw.cell 4); clear hSw; go_simp; try (with_reducible rfl))
      simp only [List.set_cons_zero, List.set_cons_succ]
      refine wpAnyH_ready (rs := [0, 5]) (by kernel_rfl) (by simp) ?_
      refine AllReadyH.cons (o := _) rfl (fun K hK => ?_) (AllReadyH.cons (o := _) rfl (fun K hK => ?_) AllReadyH.nil)
      · go_simp
        refine hK.out _ _ (HP5.out.drew) (fun _ => ?_)
        clear hK K
        try simp only [Act.put, List.setIfInBounds_toArray, List.set_cons_zero, List.set_cons_succ]
        refine wpAnyH_ready (rs := [5]) (by kernel_rfl) (by simp) ?_
        refine AllReadyH.cons (o := _) rfl (fun K hK => ?_) AllReadyH.nil
        go_simp
        refine (PutC.out _).mono ?_
        rintro e w6 ⟨u, rfl, ownU, bU⟩
        have RU := Lib.hid (Rd.of_own ownU)
        have BU := Lib.hid (DB.out.trans (bU.mono DB.out.size))
        clear ownU bU
        refine hK.out _ _ (HP5.out.below BU.out HP5.out.lt) (fun _ => ?_)
        clear hK K
        try simp only [Act.put, List.setIfInBounds_toArray, List.set_cons_zero, List.set_cons_succ]
        have own1 := own_lain OBV.out.own BU.out
        have BX1 := Lib.hid (HX.out.below BU.out HX.out.lt)
        have BP1 := Lib.hid (HP5.out.below BU.out HP5.out.lt)
        refine wpAnyH_ready (rs := [6]) (by kernel_rfl) (by simp) ?_
        refine AllReadyH.cons (o := _) rfl (fun K hK => ?_) AllReadyH.nil
        refine step_append_rd w6 rfl (.tmp 70) (.tmp 75) _ rfl w1.heap.size 5 i0 _ Try.underlying25 hi hz0 hz1 hz2 rfl (.slice A5 na c5) xs5.length (xs5.map bv) rfl own1 _ (leB 2 oo) rfl RU.out HY.out.1 HY.out.2 (by have h1 := OBV.out.low.size; have h2 := BU.out.size; omega) ?_
        intro v2 w7 own2 g2
        obtain ⟨A2, c2, e2, _⟩ := row_form own2
        subst e2
        have HO2 := Lib.hid own2
        have HG2 := Lib.hid g2
        have BX2 := Lib.hid (BX1.out.grew g2 (own_far OBV.out.own HX.out (by decide)))
        have BP2 := Lib.hid (BP1.out.grew g2 (own_far OBV.out.own HP5.out (by decide)))
        clear own1 own2 g2
        refine hK.out _ _ (BP2.out) (fun _ => ?_)
        clear hK K
        try simp only [Act.put, List.setIfInBounds_toArray]
        refine wpAnyH_ready (rs := [7]) (by kernel_rfl) (by simp) ?_
        refine AllReadyH.cons (o := _) rfl (fun K hK => ?_) AllReadyH.nil
        refine step_store_blk rfl 25 _ _ rfl X 0 25 _ BX2.out _ rfl rfl (by simp) rfl rfl size_bs ?_
        intro w8 bk3 so3
        have HF := Lib.hid (fv_step HX.out OBV.out HLE.out BU.out HO2.out HG2.out bk3 so3)
        have BP3 := Lib.hid (so3.blk BP2.out HPX.out)
        clear bk3 so3 BX2 HO2 HG2
        refine hK.out _ _ (BP3.out) (fun _ => ?_)
        clear hK K
        try simp only [Act.put]
        refine wpAnyH_done (by kernel_rfl) ?_ _
        refine NoPanic.normal ?_
        have HY8 := Lib.hid (HF.out.2.blk Y _ _ (by decide) HYX.out.1 HY5.out)
        clear BP3 BP2 BP1 BX1 hHeld
        go_wp2_with (fail)
        refine ⟨⟨j + 1, p.t, d', p.v, xs5 ++ leB 2 oo, by go_num, HLT.out, HF.out.1, HY8.out, HXS.out⟩, by have := HLT.out; simp [intOf]; omega⟩
      · go_simp
        refine (PutC.out _).mono ?_
        rintro e w6 ⟨u, rfl, ownU, bU⟩
        have RU := Lib.hid (Rd.of_own ownU)
        have BU := Lib.hid (DB.out.trans (bU.mono DB.out.size))
        clear ownU bU
        refine hK.out _ _ (HP5.out.below BU.out HP5.out.lt) (fun _ => ?_)
        clear hK K
        try simp only [Act.put, List.setIfInBounds_toArray, List.set_cons_zero, List.set_cons_succ]
        have c1 : w6.cell? ⟨X, 0, none⟩ = some (.slice A5 na c5) := (HX.out.below BU.out HX.out.lt).cell 0
        refine wpAnyH_ready (rs := [0]) (by kernel_rfl) (by simp) ?_
        refine AllReadyH.cons (o := _) rfl (fun K hK => ?_) AllReadyH.nil
        go_simp
        refine hK.out _ _ (HP5.out.below BU.out HP5.out.lt) (fun _ => ?_)
        clear hK K
        try simp only [Act.put, List.setIfInBounds_toArray, List.set_cons_zero, List.set_cons_succ]
        clear c1
        have own1 := own_lain OBV.out.own BU.out
        have BX1 := Lib.hid (HX.out.below BU.out HX.out.lt)
        have BP1 := Lib.hid (HP5.out.below BU.out HP5.out.lt)
        refine wpAnyH_ready (rs := [6]) (by kernel_rfl) (by simp) ?_
        refine AllReadyH.cons (o := _) rfl (fun K hK => ?_) AllReadyH.nil
        refine step_append_rd w6 rfl (.tmp 70) (.tmp 75) _ rfl w1.heap.size 5 i0 _ Try.underlying25 hi hz0 hz1 hz2 rfl (.slice A5 na c5) xs5.length (xs5.map bv) rfl own1 _ (leB 2 oo) rfl RU.out HY.out.1 HY.out.2 (by have h1 := OBV.out.low.size; have h2 := BU.out.size; omega) ?_
        intro v2 w7 own2 g2
        obtain ⟨A2, c2, e2, _⟩ := row_form own2
        subst e2
        have HO2 := Lib.hid own2
        have HG2 := Lib.hid g2
        have BX2 := Lib.hid (BX1.out.grew g2 (own_far OBV.out.own HX.out (by decide)))
        have BP2 := Lib.hid (BP1.out.grew g2 (own_far OBV.out.own HP5.out (by decide)))
        clear own1 own2 g2
        refine hK.out _ _ (BP2.out) (fun _ => ?_)
        clear hK K
        try simp only [Act.put, List.setIfInBounds_toArray]
        refine wpAnyH_ready (rs := [7]) (by kernel_rfl) (by simp) ?_
        refine AllReadyH.cons (o := _) rfl (fun K hK => ?_) AllReadyH.nil
        refine step_store_blk rfl 25 _ _ rfl X 0 25 _ BX2.out _ rfl rfl (by simp) rfl rfl size_bs ?_
        intro w8 bk3 so3
        have HF := Lib.hid (fv_step HX.out OBV.out HLE.out BU.out HO2.out HG2.out bk3 so3)
        have BP3 := Lib.hid (so3.blk BP2.out HPX.out)
        clear bk3 so3 BX2 HO2 HG2
        refine hK.out _ _ (BP3.out) (fun _ => ?_)
        clear hK K
        try simp only [Act.put]
        refine wpAnyH_done (by kernel_rfl) ?_ _
        refine NoPanic.normal ?_
        have HY8 := Lib.hid (HF.out.2.blk Y _ _ (by decide) HYX.out.1 HY5.out)
        clear BP3 BP2 BP1 BX1 hHeld
        go_wp2_with (fail)
        refine ⟨⟨j + 1, p.t, d', p.v, xs5 ++ leB 2 oo, by go_num, HLT.out, HF.out.1, HY8.out, HXS.out⟩, by have := HLT.out; simp [intOf]; omega⟩
    · have jI : ¬ (j : Int) < m := by omega
      have e : j = m := by omega
      subst e
      have HF : Hid (FV w1 wr X TOT) := Lib.hid (by
        rw [hmm, List.drop_length, pcsB, List.append_nil] at hxs
        rw [← hxs]
        exact hf)
      clear hf hy hxs hmm hlt hj
      go_wp2_with (fail)
      exact HQ.out _ _ _ _ _ _ _ _ _ _ _ _ _ _ _ _ _ _ _ _ _ _ _ _ _ _ _ _ _ _ _ _ _ _ HF
end Go.Proofs.Ytcicdbhffkpldaa

/- The developers' formOf, whole. Conditions: a row of pieces, at most 100000; their form is short. -/
namespace Go.Proofs.Ytcicdbhffkpldaa
open Go.RowKit

noncomputable def body_dfo : Code := (((Try.f20.body.map loopsOf).getD [])[0]?).getD .skip
set_option maxRecDepth 100000 in
set_option maxHeartbeats 8000000 in
theorem dfo_loop (c0 c1 c2 c3 c6 c7 c8 c9 c10 c11 c12 c13 c14 c15 c16 c17 c18 c19 c20 c24 c25 c26 c27 c28 c29 c30 c31 c32 c33 c34 c35 c36 c37 c38 c39 c40 c41 c42 c43 c44 c45 c46 c47 c48 c49 c50 c51 c52 c53 c54 c55 c56 c57 c58 c59 c60 c61 c62 c63 c64 c65 c66 c67 c68 c69 c70 c71 c72 c73 c74 c75 c76 c77 c78 c79 : Value) (w1 w : World) (A : Option Addr) (c nr X : Nat) (R : List (List Pc)) (hm : Hid (nr = R.length)) (h0 : Hid (RsG w1 (.slice A nr c) R)) (hml : Hid (R.length ≤ 100000 ∧ ∀ r ∈ R, GoodRun r ∧ r.length ≤ 100000)) (TOT xs0 : List UInt8) (HT : Hid (TOT = xs0 ++ (R.map runB).flatten)) (HTL : Hid (TOT.length ≤ 1000000)) (hF : Hid (FV w1 w X xs0)) {Q : Exit → Act → World → Prop}
    (HQ : Hid (∀ (u7 u8 u10 u11 u12 u24 u25 u26 u27 u28 u29 u30 u31 u32 u33 u34 u35 u36 u37 u38 u39 u40 u41 u42 u43 u44 u45 u46 u47 u48 u49 u50 u51 u52 u53 u54 u55 u56 u57 u58 u59 u60 u61 u62 u63 u64 u65 u66 u67 u68 u69 u70 u71 u72 u73 u74 u75 u76 u77 u78 y : Value) (w' : World), Hid (FV w1 w' X TOT) → Q (.exit 0) ⟨List.toArray (c0 :: c1 :: c2 :: c3 :: (.pointer (some ⟨X, 0, none⟩)) :: (.func (.func 32) #[] #[.pointer (some ⟨X, 0, none⟩)]) :: c6 :: u7 :: u8 :: c9 :: u10 :: u11 :: u12 :: c13 :: c14 :: c15 :: c16 :: c17 :: c18 :: c19 :: c20 :: (.slice A nr c) :: (.int .i64 (nr : Int)) :: y :: u24 :: u25 :: u26 :: u27 :: u28 :: u29 :: u30 :: u31 :: u32 :: u33 :: u34 :: u35 :: u36 :: u37 :: u38 :: u39 :: u40 :: u41 :: u42 :: u43 :: u44 :: u45 :: u46 :: u47 :: u48 :: u49 :: u50 :: u51 :: u52 :: u53 :: u54 :: u55 :: u56 :: u57 :: u58 :: u59 :: u60 :: u61 :: u62 :: u63 :: u64 :: u65 :: u66 :: u67 :: u68 :: u69 :: u70 :: u71 :: u72 :: u73 :: u74 :: u75 :: u76 :: u77 :: u78 :: c79 :: []), []⟩ w')) :
    (Code.loop body_dfo).wp Try.prog Q ⟨List.toArray (c0 :: c1 :: c2 :: c3 :: (.pointer (some ⟨X, 0, none⟩)) :: (.func (.func 32) #[] #[.pointer (some ⟨X, 0, none⟩)]) :: c6 :: c7 :: c8 :: c9 :: c10 :: c11 :: c12 :: c13 :: c14 :: c15 :: c16 :: c17 :: c18 :: c19 :: c20 :: (.slice A nr c) :: (.int .i64 (nr : Int)) :: (.int .i64 0) :: c24 :: c25 :: c26 :: c27 :: c28 :: c29 :: c30 :: c31 :: c32 :: c33 :: c34 :: c35 :: c36 :: c37 :: c38 :: c39 :: c40 :: c41 :: c42 :: c43 :: c44 :: c45 :: c46 :: c47 :: c48 :: c49 :: c50 :: c51 :: c52 :: c53 :: c54 :: c55 :: c56 :: c57 :: c58 :: c59 :: c60 :: c61 :: c62 :: c63 :: c64 :: c65 :: c66 :: c67 :: c68 :: c69 :: c70 :: c71 :: c72 :: c73 :: c74 :: c75 :: c76 :: c77 :: c78 :: c79 :: []), []⟩ w := by
  obtain ⟨i0, hi, hz0, hz1, hz2⟩ := info_parts info_u8
  unfold body_dfo
  conv => arg 2; arg 1; whnf
  go_loopw [23] (fun y wx => ∃ (i : Nat) (xs : List UInt8), y = .int .i64 (i : Int) ∧ i ≤ nr ∧ FV w1 wx X xs ∧ xs ++ ((R.drop i).map runB).flatten = TOT) (fun y _ => nr - (intOf y).toNat)
  case atStart => exact ⟨0, xs0, rfl, Nat.zero_le _, hF.out, by rw [HT.out]; rfl⟩
  case round =>
    obtain ⟨i, xs, rfl, hj, hf, hxs⟩ := hrel
    have HF0 := Lib.hid hf
    have hmm := hm.out
    have pI : (nr : Int) ≤ 100000 := by have := hml.out.1; omega
    by_cases hlt : i < nr
    · have jI : (i : Int) < nr := by omega
      have HLT : Hid (i + 1 ≤ nr) := Lib.hid hlt
      obtain ⟨r, hr⟩ : ∃ r, R[i]? = some r := ⟨_, List.getElem?_eq_getElem (by omega)⟩
      obtain ⟨hgood, hrl⟩ := hml.out.2 r (List.mem_of_getElem? hr)
      obtain ⟨vf, hvf, hof⟩ := hf.ex
      obtain ⟨g, o, ur, rfl, hg, hcr, hrow⟩ := h0.out.at2 hr
      obtain ⟨Ar, cr, hur, _⟩ := hrow.form
      subst hur
      obtain ⟨p, ps, hrp, hps⟩ := hgood.some'
      obtain ⟨gp, op, rfl, hgp, hrg, hok⟩ := hrow.at2 (i := 0) (p := p) (by rw [hrp]; rfl)
      have hdr : R.drop i = r :: R.drop (i + 1) := by
        obtain ⟨hj2, e2⟩ := List.getElem?_eq_some_iff.1 hr
        rw [List.drop_eq_getElem_cons hj2, e2]
      have hs63 := hok.s
      unfold maxLen at hs63
      have hRB : runB r = sh p.s.size ++ (p.s.toList ++ (sh r.length ++ pcsB 0 0 0 r)) := by rw [hrp]; rfl
      rw [hdr, List.map_cons, List.flatten_cons, hRB] at hxs
      have HXS : Hid (((((xs ++ sh p.s.size) ++ p.s.toList) ++ sh r.length) ++ pcsB 0 0 0 r) ++ ((R.drop (i + 1)).map runB).flatten = TOT) := Lib.hid (by rw [← hxs]; simp only [List.append_assoc])
      have HLEN : Hid (((((xs ++ sh p.s.size) ++ p.s.toList) ++ sh r.length) ++ pcsB 0 0 0 r).length ≤ 1000000) := Lib.hid (by
        have h1 := congrArg List.length HXS.out
        have h2 := HTL.out
        rw [List.length_append] at h1
        omega)
      obtain ⟨s, hs⟩ : ∃ s, s = p.s := ⟨_, rfl⟩
      have k0 := (range5 hrg).1
      rw [Nat.zero_mul, Nat.add_zero] at k0
      rw [← hs] at HXS HLEN k0 hs63
      have sI : (s.size : Int) ≤ 9223372036854775807 := by omega
      obtain ⟨rn, hrn⟩ : ∃ n, n = r.length := ⟨_, rfl⟩
      rw [← hrn] at HXS HLEN hcr hrow
      have HRN := Lib.hid hrn
      have rI : (rn : Int) ≤ 100000 := by omega
      have r0 : (0 : Int) < rn := by have : 0 < r.length := by { rw [hrp]; simp }; omega
      have sw : IntKind.u64.wrap (s.size : Int) = (s.size : Int) := IntWalk.u64_in _ (by omega)
      have rw' : IntKind.u64.wrap (rn : Int) = (rn : Int) := IntWalk.u64_in _ (by omega)
      have HSZ : Hid (s.size < 18446744073709551616 ∧ rn < 18446744073709551616 ∧ s.toList.length = s.size) := Lib.hid ⟨by omega, by omega, str_len s⟩
      have KR : Hid (∀ W, Below w1.heap.size w1 W → W.cell? ⟨gp, op, none⟩ = some (.string s)) := Lib.hid fun W hW => (hW.cell (p := ⟨gp, op, none⟩) hgp).trans k0
      have y0 : wr.cell? ⟨g, o + i, none⟩ = some (.slice (some ⟨gp, op, none⟩) rn cr) := (hof.low.cell (p := ⟨g, o + i, none⟩) hg).trans hcr
      have y1 : wr.cell? ⟨gp, op, none⟩ = some (.string s) := KR.out _ hof.low
      have HROW := Lib.hid hrow
      have HRL : Hid (r.length ≤ 100000) := Lib.hid hrl
      clear hxs hRB hs63 hdr hrow hrg hok hgp hps hrp hcr hg hof hvf hrl hgood hr hf hmm hlt hj hs k0 hrn
      go_wp2_with (fail)
      refine (short_any w1 _ X xs s.size HF0.out HSZ.out.1 (by have h := HLEN.out; simp only [List.length_append] at h; omega)).mono ?_
      rintro e w2 ⟨rfl, hf2, hk2⟩
      have HF2 := Lib.hid hf2
      obtain ⟨v2, hX2, hob2⟩ := hf2.ex
      obtain ⟨A2, c2, e2, _⟩ := row_form hob2.own
      subst e2
      obtain ⟨xs2, hx2⟩ : ∃ x, x = xs ++ sh s.size := ⟨_, rfl⟩
      rw [← hx2] at HXS HLEN hX2 hob2 HF2
      obtain ⟨na, hna⟩ : ∃ k, k = xs2.length := ⟨_, rfl⟩
      rw [← hna] at hX2 hob2
      have HX := Lib.hid hX2
      have OBV := Lib.hid hob2
      have y1 : w2.cell? ⟨gp, op, none⟩ = some (.string s) := KR.out _ hob2.low
      have c0 : w2.cell? ⟨X, 0, none⟩ = some (.slice A2 na c2) := hX2.cell 0
      have HNA : Hid (na + s.size ≤ 140737488355328 ∧ na + s.size ≤ 1000000) := Lib.hid (by have h := HLEN.out; have h2 := HSZ.out.2.2; simp only [List.length_append] at h; omega)
      have HNE := Lib.hid hna
      clear hf2 hk2 hX2 hob2 hna hx2 y0
      go_wp2_with (fail)
      refine wp_quiet_tail 5 (by kernel_rfl) (by kernel_rfl) (by kernel_rfl) (by kernel_rfl) (by kernel_rfl) (by kernel_rfl) (by kernel_rfl) (by kernel_rfl) ?_
      simp only [List.take_succ_cons, List.take_zero, List.drop_succ_cons, List.drop_zero]
      repeat (go_big_quiet_step (fail))
      refine wpQuiet_nil ?_
      intro wq hwq
      obtain ⟨nq, rfl⟩ := hwq
      have BD : Hid (Below w2.heap.size w2 (w2.drewN nq)) := Lib.hid (below_drewN (Below.refl _ _) nq)
      go_upto_region 10 with (at_builtin
                              refine Go.Lib.wpList_append_own_string _ rfl (.tmp 35) (.tmp 39) _ _ rfl w1.heap.size 5 i0 Try.underlying25 Try.underlying9 hi hz0 hz1 hz2 (.slice A2 na c2) xs2.length (xs2.map bv) rfl (own_lain OBV.out.own BD.out) s rfl (by have h := HNA.out; have h2 := HNE.out; unfold maxLen; omega) (by have h := HNA.out; have h2 := HNE.out; omega) (OBV.out.on BD.out).low.size ?_
                              intro v3 w3 own3 g3 _
                              obtain ⟨A3, c3, e3, _⟩ := row_form own3
                              subst e3
                              have HO3 : Hid (w3.ownsRow w1.heap.size 5 1 (.slice A3 (xs2.length + s.size) c3) (xs2.length + s.toList.length) (xs2.map bv ++ s.toList.map bv)) := Lib.hid (by rw [str_len, ← str_cells]; exact own3)
                              have HG3 := Lib.hid g3
                              have BX3 := Lib.hid ((HX.out.drewN nq).grew g3 (own_far OBV.out.own HX.out (by decide)))
                              have cc : w3.cell? ⟨X, 0, none⟩ = some (.slice A2 na c2) := BX3.out.cell 0
                              have cf : w3.frozen? ⟨X, 0, none⟩ = false := BX3.out.free 0
                              clear own3 g3)
      obtain ⟨W4, hW4⟩ : ∃ V, V = w3.setCell ⟨X, 0, none⟩ (.slice A3 (xs2.length + s.size) c3) := ⟨_, rfl⟩
      have HF4 := fv_step HX.out OBV.out HF2.out.low BD.out HO3.out HG3.out (show Blk (w3.setCell ⟨X, 0, none⟩ (.slice A3 (xs2.length + s.size) c3)) X 25 [.slice A3 (xs2.length + s.size) c3] from BX3.out.set 0 _) (Sole.setCell _ X 0 _)
      rw [← hW4] at HF4
      have HF5 := Lib.hid HF4.1
      rw [← hW4]
      clear hW4 HF4 cc cf HO3 HG3 BX3 BD HX OBV HF2 y1 c0
      go_wp2_with (fail)
      refine (short_any w1 _ X (xs2 ++ s.toList) rn HF5.out HSZ.out.2.1 (by have h := HLEN.out; simp only [List.length_append] at h ⊢; omega)).mono ?_
      rintro e w5 ⟨rfl, hf5, _⟩
      have HF6 := Lib.hid hf5
      clear hf5 HF5
      obtain ⟨W6, hW6⟩ : ∃ V, V = w5.alloc (.cells #[.int .u64 0, .int .u64 0, .int .u64 0] 61) := ⟨_, rfl⟩
      have HF7 : Hid (FV w1 W6 X ((xs2 ++ s.toList) ++ sh rn)) := Lib.hid (by rw [hW6]; exact HF6.out.below ((Below.refl _ _).alloc (Nat.le_refl _) _))
      have HY7 : Hid (Blk W6 w5.heap.size 61 (trk 0 0 0)) := Lib.hid (by rw [hW6]; exact Blk.made w5 _ _)
      have HYX : Hid (w5.heap.size ≠ X ∧ w1.heap.size ≤ w5.heap.size) := Lib.hid (by
        obtain ⟨v, h1, h2⟩ := HF6.out.ex
        have h3 := h1.lt
        exact ⟨by omega, h2.low.size⟩)
      obtain ⟨xs7, hx7⟩ : ∃ x, x = (xs2 ++ s.toList) ++ sh rn := ⟨_, rfl⟩
      rw [← hx7] at HF7 HXS HLEN
      clear hx7 HF6
      go_wp2_with (fail)
      rw [← hW6]
      clear hW6
      have hrow2 := HROW.out
      rw [HRN.out] at hrow2
      refine dfi_loop _ _ _ _ _ _ _ _ _ _ _ _ _ _ _ _ _ _ _ _ _ _ _ _ _ _ _ _ _ _ _ _ _ _ _ _ _ _ _ _ _ _ _ _ _ _ _ _ _ _ _ _ _ _ _ _ _ _ _ _ _ _ _ _ _ _ _ _ _ _ _ _ _ _ w1 W6 _ cr rn X w5.heap.size r HRN (Lib.hid hrow2) HRL (xs7 ++ pcsB 0 0 0 r) xs7 (Lib.hid rfl) HLEN HYX HF7 HY7 (Lib.hid ?_)
      intro u10 u11 u12 u49 u50 u51 u52 u53 u54 u55 u56 u57 u58 u59 u60 u61 u62 u63 u64 u65 u66 u67 u68 u69 u70 u71 u72 u73 u74 u75 u76 u77 y w' HF8
      go_wp2_with (fail)
      refine ⟨⟨i + 1, xs7 ++ pcsB 0 0 0 r, by go_num, HLT.out, HF8.out, HXS.out⟩, by have := HLT.out; simp [intOf]; omega⟩
    · have jI : ¬ (i : Int) < nr := by omega
      have e : i = nr := by omega
      subst e
      have HF : Hid (FV w1 wr X TOT) := Lib.hid (by
        rw [hmm, List.drop_length, List.map_nil, List.flatten_nil, List.append_nil] at hxs
        rw [← hxs]
        exact hf)
      clear hf hxs hmm hlt hj
      go_wp2_with (fail)
      exact HQ.out _ _ _ _ _ _ _ _ _ _ _ _ _ _ _ _ _ _ _ _ _ _ _ _ _ _ _ _ _ _ _ _ _ _ _ _ _ _ _ _ _ _ _ _ _ _ _ _ _ _ _ _ _ _ _ _ _ _ _ _ _ _ HF
theorem runs_small (l : List Pc) : ∀ r ∈ runs l, r.length ≤ l.length := fun r hr => (runs_mem l r hr).1
set_option maxRecDepth 100000 in
set_option maxHeartbeats 4000000 in
theorem formOf_any (v : Value) (l : List Pc) (w : World) (h : RsP w v l) (hn : l.length ≤ 100000) (hf : (formD l).length ≤ 1000000) :
    Calls Try.prog 20 #[v] w fun e w' => ∃ u, e = .returned u ∧ Rd w' u (formD l) ∧ Below w.heap.size w w' := by
  have HR := Lib.hid (rowsOf_any v l w h hn)
  have hl2 := runs_len l
  have HM : Hid ((runs l).length ≤ 100000 ∧ ∀ r ∈ runs l, GoodRun r ∧ r.length ≤ 100000) := Lib.hid ⟨by omega, fun r hr => ⟨runs_good h.ok (by omega) r hr, by have := runs_small l r hr; omega⟩⟩
  obtain ⟨R, hRR⟩ : ∃ R, R = runs l := ⟨_, rfl⟩
  have HFD : Hid (formD l = sh R.length ++ (R.map runB).flatten) := Lib.hid (by rw [hRR]; rfl)
  have HFL := Lib.hid hf
  rw [← hRR] at HR HM
  clear h hn hf hl2 hRR
  go_enter Try.func20, Try.ntmps20
  go_wp2_with (fail)
  refine HR.out.mono ?_
  rintro e w1 ⟨u, rfl, hg, hb⟩
  obtain ⟨A, c, rfl, hm, _⟩ := hg.ex
  obtain ⟨nr, hnr⟩ : ∃ n, n = R.length := ⟨_, rfl⟩
  have HNR := Lib.hid hnr
  rw [← hnr] at hg HFD ⊢
  have HG := Lib.hid hg
  have HB := Lib.hid hb
  have nw : IntKind.u64.wrap (nr : Int) = (nr : Int) := IntWalk.u64_in _ (by have := HM.out.1; omega)
  have HNL : Hid (nr < 18446744073709551616) := Lib.hid (by have := HM.out.1; omega)
  obtain ⟨W2, hW2⟩ : ∃ V, V = w1.alloc (.cells #[.slice none 0 0] 25) := ⟨_, rfl⟩
  have HF2 : Hid (FV w1 W2 w1.heap.size []) := Lib.hid (by
    rw [hW2]
    exact ⟨⟨_, Blk.made w1 _ _, (OB.start w1).on ((Below.refl _ _).alloc (Nat.le_refl _) _)⟩, Nat.le_refl _⟩)
  clear hg hb hm hnr HR
  go_upto_region 3 with (fail)
  rw [← hW2]
  clear hW2
  go_wp2_with (fail)
  refine (short_any w1 _ w1.heap.size [] nr HF2.out HNL.out (by simp)).mono ?_
  rintro e w3 ⟨rfl, hf3, _⟩
  rw [List.nil_append] at hf3
  have HF3 := Lib.hid hf3
  clear hf3 HF2
  go_wp2_with (fail)
  refine dfo_loop _ _ _ _ _ _ _ _ _ _ _ _ _ _ _ _ _ _ _ _ _ _ _ _ _ _ _ _ _ _ _ _ _ _ _ _ _ _ _ _ _ _ _ _ _ _ _ _ _ _ _ _ _ _ _ _ _ _ _ _ _ _ _ _ _ _ _ _ _ _ _ _ _ _ _ w1 w3 A c nr w1.heap.size R HNR HG HM (formD l) (sh nr) HFD HFL HF3 (Lib.hid ?_)
  intro u7 u8 u10 u11 u12 u24 u25 u26 u27 u28 u29 u30 u31 u32 u33 u34 u35 u36 u37 u38 u39 u40 u41 u42 u43 u44 u45 u46 u47 u48 u49 u50 u51 u52 u53 u54 u55 u56 u57 u58 u59 u60 u61 u62 u63 u64 u65 u66 u67 u68 u69 u70 u71 u72 u73 u74 u75 u76 u77 u78 y w4 HF4
  obtain ⟨v4, hX4, hob4⟩ := HF4.out.ex
  have c0 : w4.cell? ⟨w1.heap.size, 0, none⟩ = some v4 := hX4.cell 0
  have HOB := Lib.hid hob4
  clear hX4 hob4
  go_wp2_with (fail)
  go_ret
  exact ⟨v4, rfl, HOB.out.rd, HB.out.trans (HOB.out.low.mono HB.out.size)⟩
end Go.Proofs.Ytcicdbhffkpldaa
