/- Part 30 of the words that the laws share: DtBeg, DlFrA, DlZig, DlSho. No condition of its own: each theorem says its own. -/
import Derived.Test.YtcicdbhffkpldaaPart25
import Derived.Test.YtcicdbhffkpldaaPart3
import Derived.Test.YtcicdbhffkpldaaPart9
import Derived.BigQuiet

/- The developers' begins: where a row of pieces of one series begins. Conditions: a row of pieces, a place in it. -/
namespace Go.Proofs.Ytcicdbhffkpldaa
open Go.RowKit

/-- Whether another series begins at a place. -/
def begB (l : List Pc) (i : Nat) : Bool := match l[i]? with
  | none => true
  | some p => !(likeO (prevS l i) p)
theorem begB_zero (l : List Pc) : begB l 0 = true := by
  unfold begB
  cases l[0]? <;> rfl
theorem begB_at {l : List Pc} {k : Nat} {p q : Pc} (hq : l[k]? = some q) (hp : l[k + 1]? = some p) : begB l (k + 1) = !(decide (p.s.toList = q.s.toList)) := by
  unfold begB
  rw [hp]
  simp only [prevS, hq, Option.map_some, likeO]
set_option maxRecDepth 100000 in
set_option maxHeartbeats 1000000 in
theorem begins_any (A : Option Addr) (c : Nat) (l : List Pc) (w : World) (h : RsP w (.slice A l.length c) l) (hl : l.length ≤ 100000) (i : Nat) (hi : i < l.length) (b : Bool) (hb : b = begB l i) :
    Calls Try.prog 25 #[.slice A l.length c, .int .i64 (i : Int)] w fun e w' => e = .returned (.bool b) ∧ ∃ m, w' = w.drewN m := by
  by_cases h0 : i = 0
  · subst h0
    rw [begB_zero] at hb
    subst hb
    clear h hl hi
    go_enter Try.func25, Try.ntmps25
    go_wp2_with (fail)
    go_quiet (fail)
    go_wp2_with (fail)
    go_ret
    exact ⟨rfl, _, rfl⟩
  · obtain ⟨k, hk⟩ : ∃ k, i = k + 1 := ⟨i - 1, by omega⟩
    subst hk
    obtain ⟨q, hq⟩ : ∃ q, l[k]? = some q := ⟨_, List.getElem?_eq_getElem (by omega)⟩
    obtain ⟨p, hp⟩ : ∃ p, l[k + 1]? = some p := ⟨_, List.getElem?_eq_getElem hi⟩
    rw [begB_at hq hp] at hb
    obtain ⟨g, o, rfl, hg, hr, _⟩ := h.at2 hp
    obtain ⟨g', o', he, _, hr', _⟩ := h.at2 hq
    obtain ⟨rfl, rfl⟩ : g = g' ∧ o = o' := by
      injection he with he
      injection he with h1 h2
      exact ⟨h1, h2⟩
    have hc := (range5 hr).1
    have hc' := (range5 hr').1
    obtain ⟨s, hs⟩ : ∃ s, s = p.s := ⟨_, rfl⟩
    obtain ⟨s', hs'⟩ : ∃ s', s' = q.s := ⟨_, rfl⟩
    rw [← hs] at hc hb
    rw [← hs'] at hc' hb
    obtain ⟨j, hj⟩ : ∃ j, j = k + 1 := ⟨_, rfl⟩
    rw [← hj] at hc hi ⊢
    have jw : IntKind.i64.wrap ((j : Int) - 1) = (k : Int) := by
      rw [IntWalk.i64_in _ (by omega)]
      omega
    have jI : (j : Int) < l.length := by omega
    have kI : (k : Int) < l.length := by omega
    have jn : ((j : Int) == 0) = false := by rw [beq_eq_false_iff_ne]; omega
    have pI : (l.length : Int) ≤ 9223372036854775807 := by omega
    by_cases hsame : s.toList = s'.toList
    · have g1 : (s.toList == s'.toList) = true := by rw [hsame]; exact beq_self_eq_true _
      have g2 : (s.toList != s'.toList) = false := by rw [bne, g1]; rfl
      rw [decide_eq_true hsame] at hb
      subst hb
      clear hsame hs' hq he hr' hs hr hp hg hj h0 hi hl h
      go_enter Try.func25, Try.ntmps25
      go_wp2_with (fail)
      go_quiet (fail)
      go_wp2_with (fail)
      go_ret
      exact ⟨rfl, _, rfl⟩
    · have g1 : (s.toList == s'.toList) = false := by rw [beq_eq_false_iff_ne]; exact hsame
      have g2 : (s.toList != s'.toList) = true := by rw [bne, g1]; rfl
      rw [decide_eq_false hsame] at hb
      subst hb
      clear hsame hs' hq he hr' hs hr hp hg hj h0 hi hl h
      go_enter Try.func25, Try.ntmps25
      go_wp2_with (fail)
      go_quiet (fail)
      go_wp2_with (fail)
      go_ret
      exact ⟨rfl, _, rfl⟩
end Go.Proofs.Ytcicdbhffkpldaa

/- The fourteenth reference's Form, how far a row goes. Conditions: a row of pieces, at most 1000. -/
namespace Go.Proofs.Ytcicdbhffkpldaa
open Go.RowKit

noncomputable def body_rfk : Code := (((Try.f29.body.map loopsOf).getD [])[1]?).getD .skip
set_option maxRecDepth 100000 in
set_option maxHeartbeats 4000000 in
theorem rfk_loop (c1 c2 c3 c4 c7 c8 c9 c10 c11 c12 c13 c14 c15 c16 c17 c18 c19 c20 c21 c22 c23 c24 c25 c26 c27 c28 c29 c30 c31 c32 c33 c34 c35 c36 c37 c38 c39 c40 c41 c42 c43 c44 c45 c46 c47 c48 c49 c50 c51 c52 c53 c54 c55 c56 c57 c58 c59 c60 c61 c62 c63 c64 c65 c66 c67 c68 c69 c70 c71 c72 c73 c74 c75 c76 c77 c78 c79 c80 c81 c82 c83 c84 c85 c86 c87 c88 c89 c90 c91 c92 c93 c94 c95 c96 c97 c98 c99 c100 c101 c102 c103 c104 c105 c106 c107 c108 c109 c110 c111 c112 c113 c114 c115 c116 c117 c118 c119 c120 c121 c122 c123 c124 c125 c126 c127 c128 c129 c130 c131 c132 c133 c134 c135 c136 c137 c138 c139 c140 c141 c142 c143 : Value) (A : Option Addr) (c : Nat) (l : List Pc) (w : World) (h0 : Hid (RsP w (.slice A l.length c) l)) (hn : Hid (l.length ≤ 1000)) (i : Nat) (p : Pc) (hp0 : Hid (l[i]? = some p)) {Q : Exit → Act → World → Prop}
    (HQ : Hid (∀ (u16 u17 u18 u19 u20 u21 u22 u23 u24 u25 u26 u27 u28 u29 u30 u31 u32 u33 u34 : Value) (m : Nat), Q (.exit 2) ⟨List.toArray ((.slice A l.length c) :: c1 :: c2 :: c3 :: c4 :: (.int .i64 (i : Int)) :: (.int .i64 ((i + twN p l i : Nat) : Int)) :: c7 :: c8 :: c9 :: c10 :: c11 :: c12 :: c13 :: c14 :: c15 :: u16 :: u17 :: u18 :: u19 :: u20 :: u21 :: u22 :: u23 :: u24 :: u25 :: u26 :: u27 :: u28 :: u29 :: u30 :: u31 :: u32 :: u33 :: u34 :: c35 :: c36 :: c37 :: c38 :: c39 :: c40 :: c41 :: c42 :: c43 :: c44 :: c45 :: c46 :: c47 :: c48 :: c49 :: c50 :: c51 :: c52 :: c53 :: c54 :: c55 :: c56 :: c57 :: c58 :: c59 :: c60 :: c61 :: c62 :: c63 :: c64 :: c65 :: c66 :: c67 :: c68 :: c69 :: c70 :: c71 :: c72 :: c73 :: c74 :: c75 :: c76 :: c77 :: c78 :: c79 :: c80 :: c81 :: c82 :: c83 :: c84 :: c85 :: c86 :: c87 :: c88 :: c89 :: c90 :: c91 :: c92 :: c93 :: c94 :: c95 :: c96 :: c97 :: c98 :: c99 :: c100 :: c101 :: c102 :: c103 :: c104 :: c105 :: c106 :: c107 :: c108 :: c109 :: c110 :: c111 :: c112 :: c113 :: c114 :: c115 :: c116 :: c117 :: c118 :: c119 :: c120 :: c121 :: c122 :: c123 :: c124 :: c125 :: c126 :: c127 :: c128 :: c129 :: c130 :: c131 :: c132 :: c133 :: c134 :: c135 :: c136 :: c137 :: c138 :: c139 :: c140 :: c141 :: c142 :: c143 :: []), []⟩ (w.drewN m))) :
    (Code.loop body_rfk).wp Try.prog Q ⟨List.toArray ((.slice A l.length c) :: c1 :: c2 :: c3 :: c4 :: (.int .i64 (i : Int)) :: (.int .i64 (i : Int)) :: c7 :: c8 :: c9 :: c10 :: c11 :: c12 :: c13 :: c14 :: c15 :: c16 :: c17 :: c18 :: c19 :: c20 :: c21 :: c22 :: c23 :: c24 :: c25 :: c26 :: c27 :: c28 :: c29 :: c30 :: c31 :: c32 :: c33 :: c34 :: c35 :: c36 :: c37 :: c38 :: c39 :: c40 :: c41 :: c42 :: c43 :: c44 :: c45 :: c46 :: c47 :: c48 :: c49 :: c50 :: c51 :: c52 :: c53 :: c54 :: c55 :: c56 :: c57 :: c58 :: c59 :: c60 :: c61 :: c62 :: c63 :: c64 :: c65 :: c66 :: c67 :: c68 :: c69 :: c70 :: c71 :: c72 :: c73 :: c74 :: c75 :: c76 :: c77 :: c78 :: c79 :: c80 :: c81 :: c82 :: c83 :: c84 :: c85 :: c86 :: c87 :: c88 :: c89 :: c90 :: c91 :: c92 :: c93 :: c94 :: c95 :: c96 :: c97 :: c98 :: c99 :: c100 :: c101 :: c102 :: c103 :: c104 :: c105 :: c106 :: c107 :: c108 :: c109 :: c110 :: c111 :: c112 :: c113 :: c114 :: c115 :: c116 :: c117 :: c118 :: c119 :: c120 :: c121 :: c122 :: c123 :: c124 :: c125 :: c126 :: c127 :: c128 :: c129 :: c130 :: c131 :: c132 :: c133 :: c134 :: c135 :: c136 :: c137 :: c138 :: c139 :: c140 :: c141 :: c142 :: c143 :: []), []⟩ w := by
  unfold body_rfk
  conv => arg 2; arg 1; whnf
  go_loopw [6] (fun y wx => ∃ (k m : Nat), y = .int .i64 (k : Int) ∧ k ≤ l.length ∧ k + twN p l k = i + twN p l i ∧ wx = w.drewN m) (fun y _ => l.length - (intOf y).toNat)
  case atStart =>
    have := (List.getElem?_eq_some_iff.1 hp0.out).1
    exact ⟨i, 0, rfl, by omega, rfl, rfl⟩
  case round =>
    obtain ⟨k, m, rfl, hk, hsum, hwm⟩ := hrel
    have hrs : RsP wr (.slice A l.length c) l := hwm ▸ h0.out.drewR m
    have HWM := Lib.hid hwm
    have hl := hn.out
    have pI : (l.length : Int) ≤ 9223372036854775807 := by omega
    have hi := (List.getElem?_eq_some_iff.1 hp0.out).1
    have iI : (i : Int) < l.length := by omega
    obtain ⟨g, o, rfl, hg, hr, hok⟩ := hrs.at2 hp0.out
    have hc := (range5 hr).1
    obtain ⟨s, hs⟩ : ∃ s, s = p.s := ⟨_, rfl⟩
    rw [← hs] at hc
    by_cases hlt : k < l.length
    · have kI : (k : Int) < l.length := by omega
      have kd : decide ((k : Int) < l.length) = true := decide_eq_true kI
      have HLT := Lib.hid hlt
      obtain ⟨q, hq⟩ : ∃ q, l[k]? = some q := ⟨_, List.getElem?_eq_getElem hlt⟩
      obtain ⟨g', o', he, _, hr', _⟩ := hrs.at2 hq
      obtain ⟨rfl, rfl⟩ : g = g' ∧ o = o' := by
        injection he with he
        injection he with h1 h2
        exact ⟨h1, h2⟩
      have hc' := (range5 hr').1
      obtain ⟨s', hs'⟩ : ∃ s', s' = q.s := ⟨_, rfl⟩
      rw [← hs'] at hc'
      by_cases hsame : s'.toList = s.toList
      · have g1 : (s'.toList == s.toList) = true := by rw [hsame]; exact beq_self_eq_true _
        have H6 : Hid (k + 1 + twN p l (k + 1) = i + twN p l i) := Lib.hid (by rw [← hsum, twN_yes hq (by rw [← hs, ← hs', hsame])]; omega)
        clear hsame hsum hs' hq he hr' hs hr hok hrs hg hwm hl hk hlt hi
        go_wp2_with (fail)
        go_quiet (fail)
        go_wp2_with (fail)
        refine ⟨⟨k + 1, _, by go_num, HLT.out, H6.out, by rw [HWM.out, World.drewN_drewN]⟩, by simp [intOf]; omega⟩
      · have g1 : (s'.toList == s.toList) = false := by rw [beq_eq_false_iff_ne]; exact hsame
        have h6 : k = i + twN p l i := by rw [← hsum, twN_no hq (by rw [← hs, ← hs']; exact hsame)]; rfl
        have H6 := Lib.hid h6
        clear hsame h6 hsum hs' hq he hr' hs hr hok hrs hg hwm hl hk hlt hi
        go_wp2_with (fail)
        go_quiet (fail)
        go_wp2_with (fail)
        rw [H6.out]
        have hw := HWM.out
        rw [hw, World.drewN_drewN]
        exact HQ.out _ _ _ _ _ _ _ _ _ _ _ _ _ _ _ _ _ _ _ _
    · have kd2 : decide (k < l.length) = false := decide_eq_false hlt
      have kd : decide ((k : Int) < l.length) = false := decide_eq_false (by omega)
      have h6 : k = i + twN p l i := by rw [← hsum, twN_end (by omega)]; rfl
      have H6 := Lib.hid h6
      clear h6 hsum hs hr hok hrs hg hwm hl hk hlt hi hc
      go_wp2_with (fail)
      go_quiet (fail)
      go_wp2_with (fail)
      rw [H6.out]
      have hw := HWM.out
      rw [hw, World.drewN_drewN]
      exact HQ.out _ _ _ _ _ _ _ _ _ _ _ _ _ _ _ _ _ _ _ _
end Go.Proofs.Ytcicdbhffkpldaa

/- The first reference's Zig and Short. Conditions: a number of int64; of uint64. -/
namespace Go.Proofs.Ytcicdbhffkpldaa
open Go.RowKit

set_option maxRecDepth 100000 in
theorem refZig_any (z : Int) (h : -9223372036854775808 ≤ z ∧ z ≤ 9223372036854775807) (w : World) :
    Calls Try.prog 45 #[.int .i64 z] w fun e w' => e = .returned (.int .u64 (zigN z : Int)) ∧ w' = w := by
  obtain ⟨n, hn⟩ : ∃ n, n = zigN z := ⟨_, rfl⟩
  rw [← hn]
  unfold zigN at hn
  by_cases h0 : 0 ≤ z
  · rw [if_pos h0] at hn
    have e1 : IntKind.u64.wrap z = z := by rw [IntKind.wrap_u64]; omega
    have e2 : IntKind.u64.wrap (z * 2) = (n : Int) := by rw [IntKind.wrap_u64]; omega
    have HN := Lib.hid hn
    clear hn
    go_enter Try.func45, Try.ntmps45
    go_wp2_with (fail)
    go_ret
    exact ⟨rfl, rfl⟩
  · rw [if_neg h0] at hn
    obtain ⟨a, ha⟩ : ∃ a, a = z + 18446744073709551616 := ⟨_, rfl⟩
    obtain ⟨b, hb⟩ : ∃ b, b = - z := ⟨_, rfl⟩
    have e1 : IntKind.u64.wrap z = a := by rw [IntKind.wrap_u64]; omega
    have e2 : IntKind.u64.wrap (0 - a) = b := by rw [IntKind.wrap_u64]; omega
    have e2' : IntKind.u64.wrap (-a) = b := by rw [IntKind.wrap_u64]; omega
    obtain ⟨d, hd⟩ : ∃ d, d = IntKind.u64.wrap (b * 2) := ⟨_, rfl⟩
    have e3 := hd.symm
    have e4 : IntKind.u64.wrap (d - 1) = (n : Int) := by rw [hd, IntKind.wrap_u64, IntKind.wrap_u64]; omega
    have HN := Lib.hid (And.intro hn (And.intro ha (And.intro hb hd)))
    clear hn ha hb hd
    go_enter Try.func45, Try.ntmps45
    go_wp2_with (fail)
    go_ret
    exact ⟨rfl, rfl⟩
end Go.Proofs.Ytcicdbhffkpldaa

/- The first reference's Short. Condition: a number of uint64. -/
namespace Go.Proofs.Ytcicdbhffkpldaa
open Go.RowKit

def ShoRel (w : World) (zs : List UInt8) (i v : Value) (wr : World) : Prop :=
  ∃ (f m : Nat) (ys : List UInt8), i = .int .u64 m ∧ m < 2 * 128 ^ f ∧ f ≤ 9 ∧ ys.length + f ≤ 9 ∧ wr.ownsRow w.heap.size 5 1 v ys.length (ys.map bv) ∧ Below w.heap.size w wr ∧ ys ++ shortB f m = zs
theorem sho_fuel {f m : Nat} (h : ¬ (m : Int) < 128) (hm : m < 2 * 128 ^ f) : ∃ g, f = g + 1 ∧ m / 128 < 2 * 128 ^ g := by
  cases f with
  | zero => simp at hm; omega
  | succ g => exact ⟨g, rfl, by rw [Nat.pow_succ] at hm; omega⟩
set_option maxRecDepth 100000 in
set_option maxHeartbeats 400000 in
theorem refShort_any (n : Nat) (w : World) (hn : (n : Int) ≤ 18446744073709551615) :
    Calls Try.prog 44 #[.int .u64 n] w (Own w 5 (sh n)) := by
  obtain ⟨i0, hi, hz0, hz1, hz2⟩ := info_parts info_u8
  obtain ⟨zs, hzs⟩ : ∃ zs, zs = sh n := ⟨_, rfl⟩
  rw [← hzs]
  have HZ := Lib.hid hzs
  have HN := Lib.hid hn
  clear hzs hn
  go_enter Try.func44, Try.ntmps44
  go_wp2_with (fail)
  go_loopw [0, 3] (fun i v wr => ShoRel w zs i v wr) (fun i _ _ => (intOf i).toNat)
  case atStart => exact ⟨9, n, [], rfl, by have := HN.out; omega, by omega, by simp, World.ownsRow_nil _ _ _ _, Below.refl _ _, HZ.out.symm⟩
  case round =>
    obtain ⟨f, m, ys, rfl, hm, hf, hy, own2, hb2, heq⟩ := hrel
    have HE := Lib.hid heq
    have HM := Lib.hid hm
    have hmm : (m : Int) ≤ 18446744073709551615 := by
      have : (128 : Nat) ^ f ≤ 128 ^ 9 := Nat.pow_le_pow_right (by omega) hf
      omega
    clear heq hm
    have hb3 : w.heap.size ≤ wr.heap.size + 1 := by have := hb2.size; omega
    have HY := Lib.hid (show ys.length + 1 ≤ 140737488355328 by omega)
    have HF := Lib.hid (And.intro hf hy)
    clear hf hy
    by_cases h128 : (m : Int) < 128
    · have g1 : ¬ (128 : Int) ≤ m := by omega
      go_wp2_with (at_builtin
                   refine wpList_append_rd _ rfl _ _ _ rfl w.heap.size 5 i0 _ Try.underlying25 hi hz0 hz1 hz2 rfl u3 ys.length (ys.map bv) rfl (own2.alloc _) _ [UInt8.ofNat m] rfl (rd_one ?hz) ?_ ?_ ?_
                   rotate_left
                   · exact HY.out
                   · simpa using hb3
                   intro v2 w2 own3 g2)
      case hz => omega
      go_ret
      have hX : zs = ys ++ [UInt8.ofNat m] := by rw [← HE.out, shortB_last h128]
      rw [hX]
      exact ⟨v2, rfl, by simpa using own3, (hb2.alloc hb2.size _).grown g2 (by simpa using hb3) (own_ge own2)⟩
    · have g1 : (128 : Int) ≤ m := by omega
      go_wp2_with (at_builtin
                   refine wpList_append_rd _ rfl _ _ _ rfl w.heap.size 5 i0 _ Try.underlying25 hi hz0 hz1 hz2 rfl u3 ys.length (ys.map bv) rfl (own2.alloc _) _ [UInt8.ofNat (m % 128 + 128)] rfl (rd_one ?hz) ?_ ?_ ?_
                   rotate_left
                   · exact HY.out
                   · simpa using hb3
                   intro v2 w2 own3 g2)
      case hz => omega
      go_roundw
      case rel =>
        obtain ⟨g, hfg, hg⟩ := sho_fuel h128 HM.out
        refine ⟨g, m / 128, ys ++ [UInt8.ofNat (m % 128 + 128)], by go_num, hg, by have := HF.out; omega, by have := HF.out; simp; omega, by simpa using own3, (hb2.alloc hb2.size _).grown g2 (by simpa using hb3) (own_ge own2), ?_⟩
        rw [← HE.out, hfg, shortB_more h128]
        simp
      case measure => simp [intOf]; omega
end Go.Proofs.Ytcicdbhffkpldaa
