/- SlotWipes' second loop: both slots. Premises: the contracts; both slots hold what was wiped in. -/
import Derived.Test.YtnaccngcpjkmbaaDoorWSPB
namespace Go.Proofs.YtnaccngcpjkmbaaDoor
open Go.RowKit

def Twice (S : DS) (bs : List UInt8) (n m : Nat) : Prop := ∃ s, s ≤ 1 ∧ ∀ i, i < 6 → viewS S (0 + 6 * s) i = some (secW fp8 bs n i) ∧ viewS S (0 + 6 * (1 - s)) i = some (secW fp8 bs m i)
theorem view_w {S : DS} {s i : Nat} {x : List UInt8} (h : viewS S (0 + 6 * s) i = some x) : sectW S.L ((6 * s + i : Nat) : Int) = true ∧ sectB S.L ((6 * s + i : Nat) : Int) = x := by
  rw [Nat.zero_add] at h
  unfold viewS at h
  by_cases hw : sectW S.L ((6 * s + i : Nat) : Int) = true
  · rw [if_pos hw] at h
    exact ⟨hw, Option.some.inj h⟩
  · rw [if_neg hw] at h
    cases h
theorem twice_at {S : DS} {bs : List UInt8} {n m s : Nat} (h : Twice S bs n m) (hs : s ≤ 1) : (∀ i, i < 6 → sectW S.L ((6 * s + i : Nat) : Int) = true) ∧ ((∀ j, j < 6 → sectB S.L ((6 * s + j : Nat) : Int) = secW fp8 bs n j) ∨ ∀ j, j < 6 → sectB S.L ((6 * s + j : Nat) : Int) = secW fp8 bs m j) := by
  obtain ⟨t, ht, hv⟩ := h
  by_cases e : s = t
  · subst e
    exact ⟨fun i hi => (view_w (hv i hi).1).1, .inl fun j hj => (view_w (hv j hj).1).2⟩
  · have e : s = 1 - t := by omega
    subst e
    exact ⟨fun i hi => (view_w (hv i hi).2).1, .inr fun j hj => (view_w (hv j hj).2).2⟩
def SpdRel {DC : DiskW} (SC : SlotC DC) (w : World) (pp dp : Value) (S : DS) (vx vy : Value) (bs : List UInt8) (n m : Nat) (vf v : Value) (W : World) : Prop :=
  ∃ s : Nat, v = .int .i64 (s : Int) ∧ s ≤ 2 ∧ vf = .int .i64 (s : Int) ∧ SpcAt SC w pp dp S vx vy bs n m W
noncomputable def body_spd : Code := (((Tryd.f4.body.map loopsOf).getD [])[1]?).getD .skip
set_option maxRecDepth 100000 in
set_option maxHeartbeats 4000000 in
theorem spd_loop (DC : DiskW) (SC : SlotC DC) (c0 c1 c2 c3 c4 c6 c7 c8 c9 c10 c15 c16 c17 c18 c19 c20 c21 c22 c23 c24 c25 c26 c27 c28 c29 c30 c31 c32 c33 c34 c35 c36 c37 c38 c39 c40 c41 c42 c43 c44 c45 c46 c47 c48 c49 c50 c51 c52 c53 c54 c55 c56 c57 c58 c59 c60 c61 c62 c63 c64 c65 c66 c67 c68 c69 c70 c71 c72 c73 c74 c75 c76 c77 c78 c79 c80 c81 c82 c83 c84 c85 c86 c87 c88 c89 c90 c91 c92 c93 c94 c95 c96 c97 c98 c99 c100 c101 c102 c103 c104 c105 c106 c107 c108 c109 c110 c111 c112 c113 c114 c115 c116 c117 c118 c119 c120 c121 c122 c123 c124 c125 c126 c127 c128 : Value) (S : DS) (Ax Ay : Option Addr) (cx cy lx : Nat) (bs : List UInt8) (n m : Nat) (pp dp : Value) (w W0 : World) (hs : Hid (lx = cntS bs.length ∧ lx ≤ 6)) (ht : Hid (Twice S bs n m)) (h0 : Hid (SpcAt SC w pp dp S (.slice Ax lx cx) (.slice Ay lx cy) bs n m W0)) {Q : Exit → Act → World → Prop}
    (HQ : Hid (∀ (u15 u16 u17 u18 u19 u20 u21 u75 u76 u77 u78 u79 u80 u81 u82 u83 u84 u85 u86 u87 u88 u89 u90 u91 u92 u93 u94 u95 u96 u97 u98 u99 u100 u101 u102 u103 u104 u105 u106 u107 u108 u109 u110 u111 u112 u113 u114 u115 u116 u117 u118 u119 u120 u121 u122 u123 v : Value) (W : World), Hid (SpcAt SC w pp dp S (.slice Ax lx cx) (.slice Ay lx cy) bs n m W) → Q (.exit 2) ⟨List.toArray (c0 :: c1 :: c2 :: c3 :: c4 :: dp :: c6 :: c7 :: c8 :: c9 :: c10 :: (.slice Ax lx cx) :: (.slice Ay lx cy) :: (.int .i64 2) :: v :: u15 :: u16 :: u17 :: u18 :: u19 :: u20 :: u21 :: c22 :: c23 :: c24 :: c25 :: c26 :: c27 :: c28 :: c29 :: c30 :: c31 :: c32 :: c33 :: c34 :: c35 :: c36 :: c37 :: c38 :: c39 :: c40 :: c41 :: c42 :: c43 :: c44 :: c45 :: c46 :: c47 :: c48 :: c49 :: c50 :: c51 :: c52 :: c53 :: c54 :: c55 :: c56 :: c57 :: c58 :: c59 :: c60 :: c61 :: c62 :: c63 :: c64 :: c65 :: c66 :: c67 :: c68 :: c69 :: c70 :: c71 :: c72 :: c73 :: c74 :: u75 :: u76 :: u77 :: u78 :: u79 :: u80 :: u81 :: u82 :: u83 :: u84 :: u85 :: u86 :: u87 :: u88 :: u89 :: u90 :: u91 :: u92 :: u93 :: u94 :: u95 :: u96 :: u97 :: u98 :: u99 :: u100 :: u101 :: u102 :: u103 :: u104 :: u105 :: u106 :: u107 :: u108 :: u109 :: u110 :: u111 :: u112 :: u113 :: u114 :: u115 :: u116 :: u117 :: u118 :: u119 :: u120 :: u121 :: u122 :: u123 :: c124 :: c125 :: c126 :: c127 :: c128 :: []), []⟩ W)) :
    (Code.loop body_spd).wp Tryd.prog Q ⟨List.toArray (c0 :: c1 :: c2 :: c3 :: c4 :: dp :: c6 :: c7 :: c8 :: c9 :: c10 :: (.slice Ax lx cx) :: (.slice Ay lx cy) :: (.int .i64 0) :: (.int .i64 0) :: c15 :: c16 :: c17 :: c18 :: c19 :: c20 :: c21 :: c22 :: c23 :: c24 :: c25 :: c26 :: c27 :: c28 :: c29 :: c30 :: c31 :: c32 :: c33 :: c34 :: c35 :: c36 :: c37 :: c38 :: c39 :: c40 :: c41 :: c42 :: c43 :: c44 :: c45 :: c46 :: c47 :: c48 :: c49 :: c50 :: c51 :: c52 :: c53 :: c54 :: c55 :: c56 :: c57 :: c58 :: c59 :: c60 :: c61 :: c62 :: c63 :: c64 :: c65 :: c66 :: c67 :: c68 :: c69 :: c70 :: c71 :: c72 :: c73 :: c74 :: c75 :: c76 :: c77 :: c78 :: c79 :: c80 :: c81 :: c82 :: c83 :: c84 :: c85 :: c86 :: c87 :: c88 :: c89 :: c90 :: c91 :: c92 :: c93 :: c94 :: c95 :: c96 :: c97 :: c98 :: c99 :: c100 :: c101 :: c102 :: c103 :: c104 :: c105 :: c106 :: c107 :: c108 :: c109 :: c110 :: c111 :: c112 :: c113 :: c114 :: c115 :: c116 :: c117 :: c118 :: c119 :: c120 :: c121 :: c122 :: c123 :: c124 :: c125 :: c126 :: c127 :: c128 :: []), []⟩ W0 := by
  unfold body_spd
  conv => arg 2; arg 1; whnf
  go_loopw [13, 14] (fun vf v wx => SpdRel SC w pp dp S (.slice Ax lx cx) (.slice Ay lx cy) bs n m vf v wx) (fun _ v _ => 2 - (intOf v).toNat)
  case atStart => exact ⟨0, rfl, by decide, rfl, h0.out⟩
  case round =>
    obtain ⟨s, rfl, hi, rfl, hat⟩ := hrel
    by_cases hlt : s < 2
    · have sI : (s : Int) < 2 := by omega
      have HAT := Lib.hid hat
      have HLT := Lib.hid hlt
      have HT := Lib.hid (twice_at ht.out (show s ≤ 1 by omega))
      clear hat hlt hi
      go_wp2_with (fail)
      refine spc_loop DC SC _ _ _ _ _ _ _ _ _ _ _ _ _ _ _ _ _ _ _ _ _ _ _ _ _ _ _ _ _ _ _ _ _ _ _ _ _ _ _ _ _ _ _ _ _ _ _ _ _ _ _ _ _ _ _ _ _ _ _ _ _ _ _ _ _ _ _ _ _ _ _ _ _ _ _ _ _ _ _ _ _ _ _ _ _ _ _ _ _ _ _ _ _ _ _ _ _ _ _ _ _ _ _ _ _ _ _ _ _ _ _ _ _ _ _ _ _ _ _ _ _ _ S Ax Ay cx cy lx bs n m s pp dp w wr (Lib.hid ⟨by have := HLT.out; omega, hs.out.1, hs.out.2⟩) (Lib.hid HT.out.1) HAT (Lib.hid ?_)
      intro u18 u19 u20 u21 u79 u80 u81 u82 u83 u84 u85 u86 u87 u88 u89 u90 u91 u92 u93 u94 u95 u96 u97 u98 u99 u100 u101 u102 u103 u104 u105 u106 u107 u108 u109 u110 u111 u112 u113 u114 u115 u116 u117 v p q W hb
      have HPQ : Hid (p = true ∨ q = true) := Lib.hid (by
        obtain ⟨h1, h2, _⟩ := hb.out
        rcases HT.out.2 with h | h
        · exact .inl (h1.2 h)
        · exact .inr (h2.2 h))
      have A2 := Lib.hid hb.out.2.2
      clear hb
      cases p with
      | true =>
        go_wp2_with (fail)
        have hl := HLT.out
        exact ⟨⟨s + 1, by go_num, by omega, by go_num, A2.out⟩, by simp [intOf]; omega⟩
      | false =>
        cases q with
        | true =>
          go_wp2_with (fail)
          have hl := HLT.out
          exact ⟨⟨s + 1, by go_num, by omega, by go_num, A2.out⟩, by simp [intOf]; omega⟩
        | false =>
          rcases HPQ.out with h | h
          · cases h
          · cases h
    · obtain rfl : s = 2 := by omega
      have HB := Lib.hid hat
      clear hat hi hlt
      go_wp2_with (fail)
      exact HQ.out _ _ _ _ _ _ _ _ _ _ _ _ _ _ _ _ _ _ _ _ _ _ _ _ _ _ _ _ _ _ _ _ _ _ _ _ _ _ _ _ _ _ _ _ _ _ _ _ _ _ _ _ _ _ _ _ _ _ HB
end Go.Proofs.YtnaccngcpjkmbaaDoor
