/- The fifteenth reference's Great. No condition of its own. -/
import Derived.Test.YtckgpocfcanokaaLbRow
import Derived.BigQuiet
import Derived.Deep.Cut
namespace Go.Proofs.Ytckgpocfcanokaa
open Go.RowKit

noncomputable def body_gra : Code := (((Try.f5.body.map loopsOf).getD [])[0]?).getD .skip
set_option maxRecDepth 100000 in
set_option maxHeartbeats 2000000 in
theorem gra_loop (c0 c1 c3 c4 c6 c7 c8 c9 c10 c11 c12 c13 c14 c15 c16 c17 c18 c19 c20 c21 c22 c23 c24 c25 c26 c27 c28 c29 c30 c31 c32 c33 c34 c35 c36 c37 c38 c39 c40 c41 c42 c43 c44 c45 c46 c47 c48 c49 c50 c51 c52 c53 c54 c55 c56 c57 c58 c59 c60 c61 c62 c63 c64 c65 c66 c67 c68 c69 c70 c71 c72 c73 c74 : Value) (A : Option Addr) (c X : Nat) (s : ByteArray) (ls : List Qu) (w : World) (hx : Hid (Blk w X 24 [.string s, .slice A ls.length c])) (hr : Hid (RsLb w (.slice A ls.length c) ls)) (hn : Hid (ls.length ≤ 20)) {Q : Exit → Act → World → Prop}
    (HQ : Hid (∀ (u4 u29 u30 u31 u32 u33 u34 u35 u36 u37 u38 u39 u40 u41 u42 u43 u44 u45 u46 u47 u48 u49 u50 u51 y : Value) (m : Nat), Q (.exit 0) ⟨List.toArray (c0 :: c1 :: (.pointer (some ⟨X, 0, none⟩)) :: c3 :: u4 :: y :: c6 :: c7 :: c8 :: c9 :: c10 :: c11 :: c12 :: c13 :: c14 :: c15 :: c16 :: c17 :: c18 :: c19 :: c20 :: c21 :: c22 :: c23 :: c24 :: c25 :: c26 :: c27 :: c28 :: u29 :: u30 :: u31 :: u32 :: u33 :: u34 :: u35 :: u36 :: u37 :: u38 :: u39 :: u40 :: u41 :: u42 :: u43 :: u44 :: u45 :: u46 :: u47 :: u48 :: u49 :: u50 :: u51 :: c52 :: c53 :: c54 :: c55 :: c56 :: c57 :: c58 :: c59 :: c60 :: c61 :: c62 :: c63 :: c64 :: c65 :: c66 :: c67 :: c68 :: c69 :: c70 :: c71 :: c72 :: c73 :: c74 :: []), []⟩ (w.drewN m)))
    (HE : Hid (∀ (u29 u30 u31 u32 u33 u34 u35 u36 u37 u38 u39 u40 u41 u42 u43 u44 u45 u46 u47 u48 u49 u50 u51 y : Value) (m : Nat), Q .ret ⟨List.toArray (c0 :: c1 :: (.pointer (some ⟨X, 0, none⟩)) :: c3 :: (.bool true) :: y :: c6 :: c7 :: c8 :: c9 :: c10 :: c11 :: c12 :: c13 :: c14 :: c15 :: c16 :: c17 :: c18 :: c19 :: c20 :: c21 :: c22 :: c23 :: c24 :: c25 :: c26 :: c27 :: c28 :: u29 :: u30 :: u31 :: u32 :: u33 :: u34 :: u35 :: u36 :: u37 :: u38 :: u39 :: u40 :: u41 :: u42 :: u43 :: u44 :: u45 :: u46 :: u47 :: u48 :: u49 :: u50 :: u51 :: c52 :: c53 :: c54 :: c55 :: c56 :: c57 :: c58 :: c59 :: c60 :: c61 :: c62 :: c63 :: c64 :: c65 :: c66 :: c67 :: c68 :: c69 :: c70 :: c71 :: c72 :: c73 :: c74 :: []), []⟩ (w.drewN m))) :
    (Code.loop body_gra).wp Try.prog Q ⟨List.toArray (c0 :: c1 :: (.pointer (some ⟨X, 0, none⟩)) :: c3 :: c4 :: (.int .i64 0) :: c6 :: c7 :: c8 :: c9 :: c10 :: c11 :: c12 :: c13 :: c14 :: c15 :: c16 :: c17 :: c18 :: c19 :: c20 :: c21 :: c22 :: c23 :: c24 :: c25 :: c26 :: c27 :: c28 :: c29 :: c30 :: c31 :: c32 :: c33 :: c34 :: c35 :: c36 :: c37 :: c38 :: c39 :: c40 :: c41 :: c42 :: c43 :: c44 :: c45 :: c46 :: c47 :: c48 :: c49 :: c50 :: c51 :: c52 :: c53 :: c54 :: c55 :: c56 :: c57 :: c58 :: c59 :: c60 :: c61 :: c62 :: c63 :: c64 :: c65 :: c66 :: c67 :: c68 :: c69 :: c70 :: c71 :: c72 :: c73 :: c74 :: []), []⟩ w := by
  unfold body_gra
  conv => arg 2; arg 1; whnf
  go_loopw [5] (fun y wx => ∃ (j m : Nat), y = .int .i64 (j : Int) ∧ j ≤ ls.length ∧ wx = w.drewN m) (fun y _ => ls.length - (intOf y).toNat)
  case atStart => exact ⟨0, 0, rfl, Nat.zero_le _, rfl⟩
  case round =>
    obtain ⟨j, m, rfl, hj, hwm⟩ := hrel
    have hl := hn.out
    have HWM := Lib.hid hwm
    have hb : Blk wr X 24 [.string s, .slice A ls.length c] := hwm ▸ hx.out.drewN m
    have hrw : RsLb wr (.slice A ls.length c) ls := hwm ▸ hr.out.drewN m
    have b1 : wr.cell? ⟨X, 1, none⟩ = some (.slice A ls.length c) := by rw [hb.cell]; rfl
    have pI : (ls.length : Int) ≤ 20 := by omega
    by_cases hlt : j < ls.length
    · have jI : (j : Int) < ls.length := by omega
      have HLT := Lib.hid hlt
      obtain ⟨q, hq⟩ : ∃ q, ls[j]? = some q := ⟨_, List.getElem?_eq_getElem hlt⟩
      obtain ⟨g, o, rfl⟩ := hrw.addr hq
      obtain ⟨hr0, c0, c1⟩ := hrw.cells hq
      obtain ⟨t, ht⟩ : ∃ t, t = IntKind.i64.wrap ((q.n.size : Int) + (q.v.size : Int)) := ⟨_, rfl⟩
      have e1 := ht.symm
      clear hj hl hb hrw hr0 ht hwm hlt hq
      by_cases h2 : 200 < t
      · have k2 : decide ((200 : Int) < t) = true := decide_eq_true (by omega)
        clear h2
        go_wp2_with (fail)
        go_quiet (fail)
        go_wp2_with (fail)
        have hw := HWM.out
        rw [hw, World.drewN_drewN]
        exact HE.out _ _ _ _ _ _ _ _ _ _ _ _ _ _ _ _ _ _ _ _ _ _ _ _ _
      · have k2 : decide ((200 : Int) < t) = false := decide_eq_false (by omega)
        clear h2
        go_wp2_with (fail)
        go_quiet (fail)
        go_wp2_with (fail)
        refine ⟨⟨j + 1, _, by go_num, HLT.out, by rw [HWM.out, World.drewN_drewN]⟩, by simp [intOf]; omega⟩
    · have k1 : decide ((j : Int) < ls.length) = false := decide_eq_false (by omega)
      have k2 : decide (j < ls.length) = false := decide_eq_false hlt
      clear hj hl hb hrw hwm hlt
      go_wp2_with (fail)
      have hw := HWM.out
      rw [hw]
      exact HQ.out _ _ _ _ _ _ _ _ _ _ _ _ _ _ _ _ _ _ _ _ _ _ _ _ _ _
noncomputable def body_grb : Code := (((Try.f5.body.map loopsOf).getD [])[1]?).getD .skip
set_option maxRecDepth 100000 in
set_option maxHeartbeats 2000000 in
theorem grb_loop (c0 c1 c2 c4 c5 c7 c8 c9 c10 c11 c12 c13 c14 c15 c16 c17 c18 c19 c20 c21 c22 c23 c24 c25 c26 c27 c28 c29 c30 c31 c32 c33 c34 c35 c36 c37 c38 c39 c40 c41 c42 c43 c44 c45 c46 c47 c48 c49 c50 c51 c52 c53 c54 c55 c56 c57 c58 c59 c60 c61 c62 c63 c64 c65 c66 c67 c68 c69 c70 c71 c72 c73 c74 : Value) (A : Option Addr) (c X : Nat) (s : ByteArray) (ls : List Qu) (w : World) (hx : Hid (Blk w X 28 [.string s, .slice A ls.length c])) (hr : Hid (RsQu w (.slice A ls.length c) ls)) (hn : Hid (ls.length ≤ 20)) {Q : Exit → Act → World → Prop}
    (HQ : Hid (∀ (u4 u52 u53 u54 u55 u56 u57 u58 u59 u60 u61 u62 u63 u64 u65 u66 u67 u68 u69 u70 u71 u72 u73 u74 y : Value) (m : Nat), Q (.exit 2) ⟨List.toArray (c0 :: c1 :: c2 :: (.pointer (some ⟨X, 0, none⟩)) :: u4 :: c5 :: y :: c7 :: c8 :: c9 :: c10 :: c11 :: c12 :: c13 :: c14 :: c15 :: c16 :: c17 :: c18 :: c19 :: c20 :: c21 :: c22 :: c23 :: c24 :: c25 :: c26 :: c27 :: c28 :: c29 :: c30 :: c31 :: c32 :: c33 :: c34 :: c35 :: c36 :: c37 :: c38 :: c39 :: c40 :: c41 :: c42 :: c43 :: c44 :: c45 :: c46 :: c47 :: c48 :: c49 :: c50 :: c51 :: u52 :: u53 :: u54 :: u55 :: u56 :: u57 :: u58 :: u59 :: u60 :: u61 :: u62 :: u63 :: u64 :: u65 :: u66 :: u67 :: u68 :: u69 :: u70 :: u71 :: u72 :: u73 :: u74 :: []), []⟩ (w.drewN m)))
    (HE : Hid (∀ (u52 u53 u54 u55 u56 u57 u58 u59 u60 u61 u62 u63 u64 u65 u66 u67 u68 u69 u70 u71 u72 u73 u74 y : Value) (m : Nat), Q .ret ⟨List.toArray (c0 :: c1 :: c2 :: (.pointer (some ⟨X, 0, none⟩)) :: (.bool true) :: c5 :: y :: c7 :: c8 :: c9 :: c10 :: c11 :: c12 :: c13 :: c14 :: c15 :: c16 :: c17 :: c18 :: c19 :: c20 :: c21 :: c22 :: c23 :: c24 :: c25 :: c26 :: c27 :: c28 :: c29 :: c30 :: c31 :: c32 :: c33 :: c34 :: c35 :: c36 :: c37 :: c38 :: c39 :: c40 :: c41 :: c42 :: c43 :: c44 :: c45 :: c46 :: c47 :: c48 :: c49 :: c50 :: c51 :: u52 :: u53 :: u54 :: u55 :: u56 :: u57 :: u58 :: u59 :: u60 :: u61 :: u62 :: u63 :: u64 :: u65 :: u66 :: u67 :: u68 :: u69 :: u70 :: u71 :: u72 :: u73 :: u74 :: []), []⟩ (w.drewN m))) :
    (Code.loop body_grb).wp Try.prog Q ⟨List.toArray (c0 :: c1 :: c2 :: (.pointer (some ⟨X, 0, none⟩)) :: c4 :: c5 :: (.int .i64 0) :: c7 :: c8 :: c9 :: c10 :: c11 :: c12 :: c13 :: c14 :: c15 :: c16 :: c17 :: c18 :: c19 :: c20 :: c21 :: c22 :: c23 :: c24 :: c25 :: c26 :: c27 :: c28 :: c29 :: c30 :: c31 :: c32 :: c33 :: c34 :: c35 :: c36 :: c37 :: c38 :: c39 :: c40 :: c41 :: c42 :: c43 :: c44 :: c45 :: c46 :: c47 :: c48 :: c49 :: c50 :: c51 :: c52 :: c53 :: c54 :: c55 :: c56 :: c57 :: c58 :: c59 :: c60 :: c61 :: c62 :: c63 :: c64 :: c65 :: c66 :: c67 :: c68 :: c69 :: c70 :: c71 :: c72 :: c73 :: c74 :: []), []⟩ w := by
  unfold body_grb
  conv => arg 2; arg 1; whnf
  go_loopw [6] (fun y wx => ∃ (j m : Nat), y = .int .i64 (j : Int) ∧ j ≤ ls.length ∧ wx = w.drewN m) (fun y _ => ls.length - (intOf y).toNat)
  case atStart => exact ⟨0, 0, rfl, Nat.zero_le _, rfl⟩
  case round =>
    obtain ⟨j, m, rfl, hj, hwm⟩ := hrel
    have hl := hn.out
    have HWM := Lib.hid hwm
    have hb : Blk wr X 28 [.string s, .slice A ls.length c] := hwm ▸ hx.out.drewN m
    have hrw : RsQu wr (.slice A ls.length c) ls := hwm ▸ hr.out.drewN m
    have b1 : wr.cell? ⟨X, 1, none⟩ = some (.slice A ls.length c) := by rw [hb.cell]; rfl
    have pI : (ls.length : Int) ≤ 20 := by omega
    by_cases hlt : j < ls.length
    · have jI : (j : Int) < ls.length := by omega
      have HLT := Lib.hid hlt
      obtain ⟨q, hq⟩ : ∃ q, ls[j]? = some q := ⟨_, List.getElem?_eq_getElem hlt⟩
      obtain ⟨g, o, rfl⟩ := hrw.addr hq
      obtain ⟨hr0, c0, c1, c2⟩ := hrw.cells hq
      obtain ⟨t, ht⟩ : ∃ t, t = IntKind.i64.wrap ((q.n.size : Int) + (q.v.size : Int)) := ⟨_, rfl⟩
      have e1 := ht.symm
      clear hj hl hb hrw hr0 ht hwm hlt hq
      by_cases h2 : 200 < t
      · have k2 : decide ((200 : Int) < t) = true := decide_eq_true (by omega)
        clear h2
        go_wp2_with (fail)
        go_quiet (fail)
        go_wp2_with (fail)
        have hw := HWM.out
        rw [hw, World.drewN_drewN]
        exact HE.out _ _ _ _ _ _ _ _ _ _ _ _ _ _ _ _ _ _ _ _ _ _ _ _ _
      · have k2 : decide ((200 : Int) < t) = false := decide_eq_false (by omega)
        clear h2
        go_wp2_with (fail)
        go_quiet (fail)
        go_wp2_with (fail)
        refine ⟨⟨j + 1, _, by go_num, HLT.out, by rw [HWM.out, World.drewN_drewN]⟩, by simp [intOf]; omega⟩
    · have k1 : decide ((j : Int) < ls.length) = false := decide_eq_false (by omega)
      have k2 : decide (j < ls.length) = false := decide_eq_false hlt
      clear hj hl hb hrw hwm hlt
      go_wp2_with (fail)
      have hw := HWM.out
      rw [hw]
      exact HQ.out _ _ _ _ _ _ _ _ _ _ _ _ _ _ _ _ _ _ _ _ _ _ _ _ _ _
set_option maxRecDepth 100000 in
set_option maxHeartbeats 4000000 in
theorem refGreatL_any (s : ByteArray) (vs : Value) (ls : List Qu) (n : ByteArray) (vq : Value) (qs : List Qu) (w : World) (h1 : RsLb w vs ls) (h2 : RsQu w vq qs) (hs : s.size ≤ maxLen) (hn : n.size ≤ maxLen) :
    Calls Try.prog 5 #[.agg #[.string s, vs], .agg #[.string n, vq]] w fun e w' => ∃ b : Bool, e = .returned (.bool b) ∧ (b = false → s.size ≤ 100 ∧ n.size ≤ 100 ∧ ls.length ≤ 20 ∧ qs.length ≤ 20) ∧ Below w.heap.size w w' := by
  obtain ⟨A1, c1, rfl, hl1⟩ := h1.form
  obtain ⟨A2, c2, rfl, hl2⟩ := h2.form
  unfold maxLen at hl1 hl2 hs hn
  obtain ⟨W0, hW0⟩ : ∃ W : World, W = (w.alloc (.cells #[.string s, .slice A1 ls.length c1] 24)).alloc (.cells #[.string n, .slice A2 qs.length c2] 28) := ⟨_, rfl⟩
  have D0 : Hid (Below w.heap.size w W0) := Lib.hid (by rw [hW0]; exact (((Below.refl _ _).alloc (Nat.le_refl _) _).alloc (by simp) _))
  have X1 : Hid (Blk W0 w.heap.size 24 [.string s, .slice A1 ls.length c1]) := Lib.hid (by rw [hW0]; exact (Blk.made w _ _).alloc _)
  have X2 : Hid (Blk W0 (w.heap.size + 1) 28 [.string n, .slice A2 qs.length c2]) := Lib.hid (by
    have h := Blk.made (w.alloc (.cells #[.string s, .slice A1 ls.length c1] 24)) 28 [.string n, .slice A2 qs.length c2]
    rw [World.size_alloc] at h
    rw [hW0]
    exact h)
  have R1 := Lib.hid (h1.below D0.out)
  have R2 := Lib.hid (h2.below D0.out)
  have p0 : W0.cell? ⟨w.heap.size, 0, none⟩ = some (.string s) := by rw [X1.out.cell]; rfl
  have p1 : W0.cell? ⟨w.heap.size, 1, none⟩ = some (.slice A1 ls.length c1) := by rw [X1.out.cell]; rfl
  have q0 : W0.cell? ⟨w.heap.size + 1, 0, none⟩ = some (.string n) := by rw [X2.out.cell]; rfl
  have q1 : W0.cell? ⟨w.heap.size + 1, 1, none⟩ = some (.slice A2 qs.length c2) := by rw [X2.out.cell]; rfl
  have HX : Hid (W0 = (w.alloc (.cells #[.string s, .slice A1 ls.length c1] 24)).alloc (.cells #[.string n, .slice A2 qs.length c2] 28)) := Lib.hid hW0
  clear h1 h2 hW0
  by_cases g1 : 100 < s.size ∨ 100 < n.size ∨ 20 < ls.length ∨ 20 < qs.length
  · by_cases f1 : 100 < s.size
    · have k1 : decide ((100 : Int) < (s.size : Int)) = true := decide_eq_true (by omega)
      clear g1 f1 hl1 hl2 hs hn
      go_enter Try.func5, Try.ntmps5
      go_upto_region 1 with (fail)
      rw [← HX.out]
      clear HX
      go_wp2_with (fail)
      go_ret
      exact ⟨true, rfl, fun h => Bool.noConfusion h, D0.out⟩
    · have k1 : decide ((100 : Int) < (s.size : Int)) = false := decide_eq_false (by omega)
      by_cases f2 : 100 < n.size
      · have k2 : decide ((100 : Int) < (n.size : Int)) = true := decide_eq_true (by omega)
        clear g1 f1 f2 hl1 hl2 hs hn
        go_enter Try.func5, Try.ntmps5
        go_upto_region 1 with (fail)
        rw [← HX.out]
        clear HX
        go_wp2_with (fail)
        go_ret
        exact ⟨true, rfl, fun h => Bool.noConfusion h, D0.out⟩
      · have k2 : decide ((100 : Int) < (n.size : Int)) = false := decide_eq_false (by omega)
        by_cases f3 : 20 < ls.length
        · have k3 : decide ((20 : Int) < (ls.length : Int)) = true := decide_eq_true (by omega)
          clear g1 f1 f2 f3 hl1 hl2 hs hn
          go_enter Try.func5, Try.ntmps5
          go_upto_region 1 with (fail)
          rw [← HX.out]
          clear HX
          go_wp2_with (fail)
          go_ret
          exact ⟨true, rfl, fun h => Bool.noConfusion h, D0.out⟩
        · have k3 : decide ((20 : Int) < (ls.length : Int)) = false := decide_eq_false (by omega)
          have k4 : decide ((20 : Int) < (qs.length : Int)) = true := decide_eq_true (by omega)
          clear g1 f1 f2 f3 hl1 hl2 hs hn
          go_enter Try.func5, Try.ntmps5
          go_upto_region 1 with (fail)
          rw [← HX.out]
          clear HX
          go_wp2_with (fail)
          go_ret
          exact ⟨true, rfl, fun h => Bool.noConfusion h, D0.out⟩
  · have k1 : decide ((100 : Int) < (s.size : Int)) = false := decide_eq_false (by omega)
    have k2 : decide ((100 : Int) < (n.size : Int)) = false := decide_eq_false (by omega)
    have k3 : decide ((20 : Int) < (ls.length : Int)) = false := decide_eq_false (by omega)
    have k4 : decide ((20 : Int) < (qs.length : Int)) = false := decide_eq_false (by omega)
    have HB : Hid (s.size ≤ 100 ∧ n.size ≤ 100 ∧ ls.length ≤ 20 ∧ qs.length ≤ 20) := Lib.hid (by omega)
    clear g1 hl1 hl2 hs hn
    go_enter Try.func5, Try.ntmps5
    go_upto_region 1 with (fail)
    rw [← HX.out]
    clear HX
    go_wp2_with (fail)
    refine gra_loop _ _ _ _ _ _ _ _ _ _ _ _ _ _ _ _ _ _ _ _ _ _ _ _ _ _ _ _ _ _ _ _ _ _ _ _ _ _ _ _ _ _ _ _ _ _ _ _ _ _ _ _ _ _ _ _ _ _ _ _ _ _ _ _ _ _ _ _ _ _ _ _ _ A1 c1 w.heap.size s ls W0 X1 R1 (Lib.hid HB.out.2.2.1) (Lib.hid ?_) (Lib.hid ?_)
    · intro u4 u29 u30 u31 u32 u33 u34 u35 u36 u37 u38 u39 u40 u41 u42 u43 u44 u45 u46 u47 u48 u49 u50 u51 y m
      have X22 := Lib.hid (X2.out.drewN m)
      have R22 := Lib.hid (R2.out.drewN m)
      go_wp2_with (fail)
      refine grb_loop _ _ _ _ _ _ _ _ _ _ _ _ _ _ _ _ _ _ _ _ _ _ _ _ _ _ _ _ _ _ _ _ _ _ _ _ _ _ _ _ _ _ _ _ _ _ _ _ _ _ _ _ _ _ _ _ _ _ _ _ _ _ _ _ _ _ _ _ _ _ _ _ _ A2 c2 (w.heap.size + 1) n qs (W0.drewN m) X22 R22 (Lib.hid HB.out.2.2.2) (Lib.hid ?_) (Lib.hid ?_)
      · intro u4 u52 u53 u54 u55 u56 u57 u58 u59 u60 u61 u62 u63 u64 u65 u66 u67 u68 u69 u70 u71 u72 u73 u74 y2 m2
        go_wp2_with (fail)
        go_ret
        exact ⟨false, rfl, fun _ => HB.out, below_drewN (below_drewN D0.out m) m2⟩
      · intro u52 u53 u54 u55 u56 u57 u58 u59 u60 u61 u62 u63 u64 u65 u66 u67 u68 u69 u70 u71 u72 u73 u74 y2 m2
        go_ret
        exact ⟨true, rfl, fun h => Bool.noConfusion h, below_drewN (below_drewN D0.out m) m2⟩
    · intro u29 u30 u31 u32 u33 u34 u35 u36 u37 u38 u39 u40 u41 u42 u43 u44 u45 u46 u47 u48 u49 u50 u51 y m
      go_ret
      exact ⟨true, rfl, fun h => Bool.noConfusion h, below_drewN D0.out m⟩
end Go.Proofs.Ytckgpocfcanokaa
