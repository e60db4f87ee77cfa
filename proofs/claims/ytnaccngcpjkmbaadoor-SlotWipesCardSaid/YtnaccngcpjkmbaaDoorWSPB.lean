/- SlotWipes' innermost loop: a slot's sectors held against what was laid. Premises: the contracts. -/
import Derived.Test.YtnaccngcpjkmbaaDoorWSPA
import Derived.Test.YtnaccngcpjkmbaaDoorPart12
import Derived.Test.YtnaccngcpjkmbaaDoorPart34
import Derived.Test.YtnaccngcpjkmbaaDoorPart3
import Derived.Test.YtnaccngcpjkmbaaDoorRLay
import Derived.Test.YtnaccngcpjkmbaaDoorPart9
import Derived.Deep.RegionHeld3
namespace Go.Proofs.YtnaccngcpjkmbaaDoor
open Go.RowKit

/-- 128 bytes 00 are made at a step. -/
theorem step_z128 (w : World) {ops : Array Oper} {o : Oper} {a : Act} {K : Act → World → Prop} {Q : Exit → Act → World → Prop} {E : Prop} (hgd : o.guard = none) (d : Nat) (hd : o.dst = some d) (l c : Operand) (hop : o.op = Op.makeSlice 23 l c) (hl : a.eval l = .int .i64 128) (hc : a.eval c = .int .i64 128)
    (h : ∀ v w', Rd w' v z128 → Below w.heap.size w w' → K ⟨a.tmps.setIfInBounds d v, a.defers⟩ w') : if Region.wanted o (yielded ops a.tmps) = true then Oper.wp Tryd.prog o a w K Q else E := by
  obtain ⟨i0, hi0, hz0, hz1, hz2⟩ := info_parts info_u8
  refine step_make_full w hgd l c _ hop w.heap.size 5 i0 _ 1 Tryd.underlying23 hi0 hz0 hz1 .i64 .i64 128 128 128 hl hc rfl rfl (by rw [hz2]; decide) (by unfold maxLen; decide) (Nat.le_refl _) ?_
  intro w' ho hg
  have e : (madeCells (Value.int .u8 0).cells (128 * 1)).toList = z128.map bv := by
    rw [made_one rfl]
    rfl
  rw [e] at ho
  rw [hd]
  exact h _ w' (Rd.of_own ho) ((Below.refl _ _).grown hg (Nat.le_refl _) (fun k hk => by cases hk))
theorem step_assign {P : Program} {ops : Array Oper} {o : Oper} {a : Act} {w : World} {K : Act → World → Prop} {Q : Exit → Act → World → Prop} {E : Prop} (hgd : o.guard = none) (d : Nat) (hd : o.dst = some d) (x : Operand) (ho : o.op = .assign x) (v : Value) (hv : a.eval x = v) (h : K ⟨a.tmps.setIfInBounds d v, a.defers⟩ w) : if Region.wanted o (yielded ops a.tmps) = true then Oper.wp P o a w K Q else E := by
  subst hv
  have hw : Region.wanted o (yielded ops a.tmps) = true := by simp [Region.wanted, hgd]
  rw [if_pos hw]
  have h2 : K (a.put o.dst (a.eval x)) w := by
    rw [hd]
    exact h
  unfold Oper.wp execOp
  simp only [ho, Sem.run_pure]
  exact h2
/-- What stays while sectors are looked at. -/
structure SpcAt {DC : DiskW} (SC : SlotC DC) (w : World) (pp dp : Value) (S : DS) (vx vy : Value) (bs : List UInt8) (n m : Nat) (W : World) : Prop where
  keep : Keep SC w pp dp S (.slice none 0 0) [] W
  x : RsA W vx (laysB bs n)
  y : RsA W vy (laysB bs m)
theorem SpcAt.on {DC : DiskW} {SC : SlotC DC} {w : World} {pp dp : Value} {S : DS} {vx vy : Value} {bs : List UInt8} {n m : Nat} {W W' : World} (h : SpcAt SC w pp dp S vx vy bs n m W) (hb : Below W.heap.size W W') : SpcAt SC w pp dp S vx vy bs n m W' := ⟨h.keep.on hb, h.x.below hb, h.y.below hb⟩
def SpcRel {DC : DiskW} (SC : SlotC DC) (w : World) (pp dp : Value) (S : DS) (vx vy : Value) (bs : List UInt8) (n m s : Nat) (va vf v : Value) (W : World) : Prop :=
  ∃ (i : Nat) (p q : Bool), v = .int .i64 (i : Int) ∧ i ≤ 6 ∧ va = .bool p ∧ vf = .bool q ∧ (p = true ↔ ∀ j, j < i → sectB S.L ((6 * s + j : Nat) : Int) = secW fp8 bs n j) ∧ (q = true ↔ ∀ j, j < i → sectB S.L ((6 * s + j : Nat) : Int) = secW fp8 bs m j) ∧ SpcAt SC w pp dp S vx vy bs n m W
def IffB (p : Bool) (X : Prop) : Prop := p = true ↔ X
theorem and_next {p b : Bool} {i : Nat} {P : Nat → Prop} (hp : IffB p (∀ j, j < i → P j)) (hb : b = true ↔ P i) : (p && b) = true ↔ ∀ j, j < i + 1 → P j := by
  have hp : p = true ↔ ∀ j, j < i → P j := hp
  rw [Bool.and_eq_true, hp, hb]
  constructor
  · rintro ⟨h1, h2⟩ j hj
    by_cases e : j = i
    · rw [e]; exact h2
    · exact h1 j (by omega)
  · intro h
    exact ⟨fun j hj => h j (by omega), h i (by omega)⟩
noncomputable def body_spc : Code := (((Tryd.f4.body.map loopsOf).getD [])[2]?).getD .skip
set_option maxRecDepth 100000 in
set_option maxHeartbeats 4000000 in
theorem spc_loop (DC : DiskW) (SC : SlotC DC) (c0 c1 c2 c3 c4 c6 c7 c8 c9 c10 c13 c18 c19 c20 c21 c22 c23 c24 c25 c26 c27 c28 c29 c30 c31 c32 c33 c34 c35 c36 c37 c38 c39 c40 c41 c42 c43 c44 c45 c46 c47 c48 c49 c50 c51 c52 c53 c54 c55 c56 c57 c58 c59 c60 c61 c62 c63 c64 c65 c66 c67 c68 c69 c70 c71 c72 c73 c74 c75 c76 c77 c78 c79 c80 c81 c82 c83 c84 c85 c86 c87 c88 c89 c90 c91 c92 c93 c94 c95 c96 c97 c98 c99 c100 c101 c102 c103 c104 c105 c106 c107 c108 c109 c110 c111 c112 c113 c114 c115 c116 c117 c118 c119 c120 c121 c122 c123 c124 c125 c126 c127 c128 : Value) (S : DS) (Ax Ay : Option Addr) (cx cy lx : Nat) (bs : List UInt8) (n m s : Nat) (pp dp : Value) (w W0 : World) (hs : Hid (s ≤ 1 ∧ lx = cntS bs.length ∧ lx ≤ 6)) (hr : Hid (∀ i, i < 6 → sectW S.L ((6 * s + i : Nat) : Int) = true)) (h0 : Hid (SpcAt SC w pp dp S (.slice Ax lx cx) (.slice Ay lx cy) bs n m W0)) {Q : Exit → Act → World → Prop}
    (HQ : Hid (∀ (u18 u19 u20 u21 u79 u80 u81 u82 u83 u84 u85 u86 u87 u88 u89 u90 u91 u92 u93 u94 u95 u96 u97 u98 u99 u100 u101 u102 u103 u104 u105 u106 u107 u108 u109 u110 u111 u112 u113 u114 u115 u116 u117 v : Value) (p q : Bool) (W : World), Hid ((p = true ↔ ∀ j, j < 6 → sectB S.L ((6 * s + j : Nat) : Int) = secW fp8 bs n j) ∧ (q = true ↔ ∀ j, j < 6 → sectB S.L ((6 * s + j : Nat) : Int) = secW fp8 bs m j) ∧ SpcAt SC w pp dp S (.slice Ax lx cx) (.slice Ay lx cy) bs n m W) → Q (.exit 4) ⟨List.toArray (c0 :: c1 :: c2 :: c3 :: c4 :: dp :: c6 :: c7 :: c8 :: c9 :: c10 :: (.slice Ax lx cx) :: (.slice Ay lx cy) :: c13 :: (.int .i64 (s : Int)) :: (.bool p) :: (.bool q) :: v :: u18 :: u19 :: u20 :: u21 :: c22 :: c23 :: c24 :: c25 :: c26 :: c27 :: c28 :: c29 :: c30 :: c31 :: c32 :: c33 :: c34 :: c35 :: c36 :: c37 :: c38 :: c39 :: c40 :: c41 :: c42 :: c43 :: c44 :: c45 :: c46 :: c47 :: c48 :: c49 :: c50 :: c51 :: c52 :: c53 :: c54 :: c55 :: c56 :: c57 :: c58 :: c59 :: c60 :: c61 :: c62 :: c63 :: c64 :: c65 :: c66 :: c67 :: c68 :: c69 :: c70 :: c71 :: c72 :: c73 :: c74 :: c75 :: c76 :: c77 :: c78 :: u79 :: u80 :: u81 :: u82 :: u83 :: u84 :: u85 :: u86 :: u87 :: u88 :: u89 :: u90 :: u91 :: u92 :: u93 :: u94 :: u95 :: u96 :: u97 :: u98 :: u99 :: u100 :: u101 :: u102 :: u103 :: u104 :: u105 :: u106 :: u107 :: u108 :: u109 :: u110 :: u111 :: u112 :: u113 :: u114 :: u115 :: u116 :: u117 :: c118 :: c119 :: c120 :: c121 :: c122 :: c123 :: c124 :: c125 :: c126 :: c127 :: c128 :: []), []⟩ W)) :
    (Code.loop body_spc).wp Tryd.prog Q ⟨List.toArray (c0 :: c1 :: c2 :: c3 :: c4 :: dp :: c6 :: c7 :: c8 :: c9 :: c10 :: (.slice Ax lx cx) :: (.slice Ay lx cy) :: c13 :: (.int .i64 (s : Int)) :: (.bool true) :: (.bool true) :: (.int .i64 0) :: c18 :: c19 :: c20 :: c21 :: c22 :: c23 :: c24 :: c25 :: c26 :: c27 :: c28 :: c29 :: c30 :: c31 :: c32 :: c33 :: c34 :: c35 :: c36 :: c37 :: c38 :: c39 :: c40 :: c41 :: c42 :: c43 :: c44 :: c45 :: c46 :: c47 :: c48 :: c49 :: c50 :: c51 :: c52 :: c53 :: c54 :: c55 :: c56 :: c57 :: c58 :: c59 :: c60 :: c61 :: c62 :: c63 :: c64 :: c65 :: c66 :: c67 :: c68 :: c69 :: c70 :: c71 :: c72 :: c73 :: c74 :: c75 :: c76 :: c77 :: c78 :: c79 :: c80 :: c81 :: c82 :: c83 :: c84 :: c85 :: c86 :: c87 :: c88 :: c89 :: c90 :: c91 :: c92 :: c93 :: c94 :: c95 :: c96 :: c97 :: c98 :: c99 :: c100 :: c101 :: c102 :: c103 :: c104 :: c105 :: c106 :: c107 :: c108 :: c109 :: c110 :: c111 :: c112 :: c113 :: c114 :: c115 :: c116 :: c117 :: c118 :: c119 :: c120 :: c121 :: c122 :: c123 :: c124 :: c125 :: c126 :: c127 :: c128 :: []), []⟩ W0 := by
  unfold body_spc
  conv => arg 2; arg 1; whnf
  go_loopw [15, 16, 17] (fun va vf v wx => SpcRel SC w pp dp S (.slice Ax lx cx) (.slice Ay lx cy) bs n m s va vf v wx) (fun _ _ v _ => 6 - (intOf v).toNat)
  case atStart => exact ⟨0, true, true, rfl, by decide, rfl, rfl, ⟨fun _ j hj => by omega, fun _ => rfl⟩, ⟨fun _ j hj => by omega, fun _ => rfl⟩, h0.out⟩
  case round =>
    obtain ⟨i, p, q, rfl, hi, rfl, rfl, hp, hq, hat⟩ := hrel
    by_cases hlt : i < 6
    · have hI : (i : Int) < 6 := by omega
      have sI : (s : Int) ≤ 1 := by have := hs.out; omega
      have HAT := Lib.hid hat
      have HP : Hid (IffB p (∀ j, j < i → sectB S.L ((6 * s + j : Nat) : Int) = secW fp8 bs n j)) := Lib.hid hp
      have HQ' : Hid (IffB q (∀ j, j < i → sectB S.L ((6 * s + j : Nat) : Int) = secW fp8 bs m j)) := Lib.hid hq
      have HLT := Lib.hid hlt
      obtain ⟨kq, hkq⟩ : ∃ kq : Nat, kq = 6 * s + i := ⟨_, rfl⟩
      have e2 : IntKind.i64.wrap (6 * (s : Int) + (i : Int)) = (kq : Int) := by rw [IntWalk.i64_in _ (by omega), hkq]; omega
      have hkqI : 6 * (s : Int) + (i : Int) = (kq : Int) := by omega
      have HKQ := Lib.hid hkq
      obtain ⟨zz, hzz⟩ : ∃ zz, zz = sectB S.L (kq : Int) := ⟨_, rfl⟩
      have hrd : Calls Tryd.prog 17 #[dp, .int .i64 (6 * (s : Int) + (i : Int))] wr fun e w' => ∃ u, e = .returned (.tuple #[u, .int .i64 0]) ∧ Rd w' u zz ∧ Below wr.heap.size wr w' := by
        obtain ⟨F, h1, _⟩ := hat.keep
        obtain ⟨F1, F2, h2, _⟩ := h1.both
        have h3 := hr.out i hlt
        rw [← hkq] at h3
        rw [hkqI, hzz]
        refine (DC.read h2 (kq : Int) (WalkArith.wf_i64 (by omega))).mono ?_
        rintro e w' ⟨u, rfl, h4, _, h5⟩
        rw [readS_sect, if_neg (by omega), if_pos h3] at h4 ⊢
        exact ⟨u, rfl, h4, h5⟩
      have HRD := Lib.hid hrd
      have HZZ : Hid (zz = sectB S.L ((6 * s + i : Nat) : Int)) := Lib.hid (by rw [hzz, hkq])
      clear hat hp hq hlt hi hkq hrd e2 hkqI hzz
      go_wp2_with (fail)
      refine HRD.out.mono ?_
      rintro e w1 ⟨cr, rfl, rc, b1⟩
      have RC := Lib.hid rc
      have A1 := Lib.hid (HAT.out.on b1)
      clear rc b1
      go_upto_region 24 with (fail)
      refine wp_region_held_drew (S := fun _ => True) (by kernel_rfl) trivial (fun hHeld => ?_)
      refine wpAnyH_ready (rs := [0, 1]) (by kernel_rfl) (by simp) ?_
      refine AllReadyH.cons (o := _) rfl (fun K hK => ?_) (AllReadyH.cons (o := _) rfl (fun K hK => ?_) AllReadyH.nil)
      rotate_left
      case' refine_2 =>
        refine step_z128 _ (by rfl) 93 rfl _ _ rfl rfl rfl ?_
        intro vy w2 ry b1
        refine hK.out _ _ trivial (fun _ => ?_)
        clear hK K
        simp only [List.setIfInBounds_toArray, List.set_cons_zero, List.set_cons_succ]
        refine wpAnyH_ready (rs := [0]) (by kernel_rfl) (by simp) ?_
        refine AllReadyH.cons (o := _) rfl (fun K hK => ?_) AllReadyH.nil
        refine step_z128 _ (by rfl) 92 rfl _ _ rfl rfl rfl ?_
        intro vx w3 rx b2
        refine hK.out _ _ trivial (fun _ => ?_)
        clear hK K
        simp only [List.setIfInBounds_toArray, List.set_cons_zero, List.set_cons_succ]
        refine wpAnyH_ready (rs := [2]) (by kernel_rfl) (by simp) ?_
        refine AllReadyH.cons (o := _) rfl (fun K hK => ?_) AllReadyH.nil
        refine step_assign (by rfl) 20 rfl (.tmp 92) rfl vx rfl ?_
        refine hK.out _ _ trivial (fun _ => ?_)
        clear hK K
        simp only [List.setIfInBounds_toArray, List.set_cons_zero, List.set_cons_succ]
        refine wpAnyH_ready (rs := [3]) (by kernel_rfl) (by simp) ?_
        refine AllReadyH.cons (o := _) rfl (fun K hK => ?_) AllReadyH.nil
        refine step_assign (by rfl) 21 rfl (.tmp 93) rfl vy rfl ?_
        refine hK.out _ _ trivial (fun _ => ?_)
        clear hK K
        simp only [List.setIfInBounds_toArray, List.set_cons_zero, List.set_cons_succ]
        have RY : Hid (Rd w3 vy z128) := Lib.hid (ry.below b2)
        have RX : Hid (Rd w3 vx z128) := Lib.hid rx
        have B3 : Hid (Below w1.heap.size w1 w3) := Lib.hid (((Below.refl _ w1).drew.trans b1).trans (b2.mono b1.size))
        clear rx ry b1 b2
        refine wpAnyH_done (by kernel_rfl) ?_ _
      case' refine_1 =>
        refine step_z128 _ (by rfl) 92 rfl _ _ rfl rfl rfl ?_
        intro vx w2 rx b1
        refine hK.out _ _ trivial (fun _ => ?_)
        clear hK K
        simp only [List.setIfInBounds_toArray, List.set_cons_zero, List.set_cons_succ]
        refine wpAnyH_ready (rs := [1, 2]) (by kernel_rfl) (by simp) ?_
        refine AllReadyH.cons (o := _) rfl (fun K hK => ?_) (AllReadyH.cons (o := _) rfl (fun K hK => ?_) AllReadyH.nil)
        case' refine_1 =>
          refine step_z128 _ (by rfl) 93 rfl _ _ rfl rfl rfl ?_
          intro vy w3 ry b2
          refine hK.out _ _ trivial (fun _ => ?_)
          clear hK K
          simp only [List.setIfInBounds_toArray, List.set_cons_zero, List.set_cons_succ]
          refine wpAnyH_ready (rs := [2]) (by kernel_rfl) (by simp) ?_
          refine AllReadyH.cons (o := _) rfl (fun K hK => ?_) AllReadyH.nil
          refine step_assign (by rfl) 20 rfl (.tmp 92) rfl vx rfl ?_
          refine hK.out _ _ trivial (fun _ => ?_)
          clear hK K
          simp only [List.setIfInBounds_toArray, List.set_cons_zero, List.set_cons_succ]
          refine wpAnyH_ready (rs := [3]) (by kernel_rfl) (by simp) ?_
          refine AllReadyH.cons (o := _) rfl (fun K hK => ?_) AllReadyH.nil
          refine step_assign (by rfl) 21 rfl (.tmp 93) rfl vy rfl ?_
          refine hK.out _ _ trivial (fun _ => ?_)
          clear hK K
          simp only [List.setIfInBounds_toArray, List.set_cons_zero, List.set_cons_succ]
          have RX : Hid (Rd w3 vx z128) := Lib.hid (rx.below b2)
          have RY : Hid (Rd w3 vy z128) := Lib.hid ry
          have B3 : Hid (Below w1.heap.size w1 w3) := Lib.hid (((Below.refl _ w1).drew.trans b1).trans (b2.mono b1.size))
          clear rx ry b1 b2
          refine wpAnyH_done (by kernel_rfl) ?_ _
        case' refine_2 =>
          refine step_assign (by rfl) 20 rfl (.tmp 92) rfl vx rfl ?_
          refine hK.out _ _ trivial (fun _ => ?_)
          clear hK K
          simp only [List.setIfInBounds_toArray, List.set_cons_zero, List.set_cons_succ]
          refine wpAnyH_ready (rs := [1]) (by kernel_rfl) (by simp) ?_
          refine AllReadyH.cons (o := _) rfl (fun K hK => ?_) AllReadyH.nil
          refine step_z128 _ (by rfl) 93 rfl _ _ rfl rfl rfl ?_
          intro vy w3 ry b2
          refine hK.out _ _ trivial (fun _ => ?_)
          clear hK K
          simp only [List.setIfInBounds_toArray, List.set_cons_zero, List.set_cons_succ]
          refine wpAnyH_ready (rs := [3]) (by kernel_rfl) (by simp) ?_
          refine AllReadyH.cons (o := _) rfl (fun K hK => ?_) AllReadyH.nil
          refine step_assign (by rfl) 21 rfl (.tmp 93) rfl vy rfl ?_
          refine hK.out _ _ trivial (fun _ => ?_)
          clear hK K
          simp only [List.setIfInBounds_toArray, List.set_cons_zero, List.set_cons_succ]
          have RX : Hid (Rd w3 vx z128) := Lib.hid (rx.below b2)
          have RY : Hid (Rd w3 vy z128) := Lib.hid ry
          have B3 : Hid (Below w1.heap.size w1 w3) := Lib.hid (((Below.refl _ w1).drew.trans b1).trans (b2.mono b1.size))
          clear rx ry b1 b2
          refine wpAnyH_done (by kernel_rfl) ?_ _
      all_goals
        have A3 := Lib.hid (A1.out.on B3.out)
        have RC3 := Lib.hid (RC.out.below B3.out)
        obtain ⟨sx, hsx⟩ : ∃ sx, sx = secW fp8 bs n i := ⟨_, rfl⟩
        obtain ⟨sy, hsy⟩ : ∃ sy, sy = secW fp8 bs m i := ⟨_, rfl⟩
        obtain ⟨bx, hbx⟩ : ∃ bx : Bool, decide (zz = sx) = bx := ⟨_, rfl⟩
        obtain ⟨by', hby⟩ : ∃ by' : Bool, decide (zz = sy) = by' := ⟨_, rfl⟩
        have HBX := Lib.hid hbx
        have HBY := Lib.hid hby
        have HPX : Hid (bx = true ↔ sectB S.L ((6 * s + i : Nat) : Int) = secW fp8 bs n i) := Lib.hid (by rw [← hbx, decide_eq_true_iff, ← HZZ.out, ← hsx])
        have HPY : Hid (by' = true ↔ sectB S.L ((6 * s + i : Nat) : Int) = secW fp8 bs m i) := Lib.hid (by rw [← hby, decide_eq_true_iff, ← HZZ.out, ← hsy])
        have HSX := Lib.hid hsx
        have HSY := Lib.hid hsy
        clear hsx hsy hbx hby
        by_cases hil : i < lx
        case' pos =>
          have hilI : (i : Int) < (lx : Int) := by omega
          obtain ⟨A, c, e, _, hrow⟩ := A3.out.x.ex
          injection e with e1 e2 e3
          obtain ⟨gx, ox, ux, hA, hg, cux, hux, h9⟩ := hrow i (by rw [← e2]; exact hil)
          obtain rfl : Ax = some ⟨gx, ox, none⟩ := e1.trans hA
          obtain ⟨A', c', e', _, hrow'⟩ := A3.out.y.ex
          injection e' with e1' e2' e3'
          obtain ⟨gy, oy, uy, hA', hg', cuy, huy, h9'⟩ := hrow' i (by rw [← e2']; exact hil)
          obtain rfl : Ay = some ⟨gy, oy, none⟩ := e1'.trans hA'
          have HUX : Hid (Rd w3 ux sx) := Lib.hid (by
            rw [HSX.out]
            unfold secW
            rw [if_pos (by rw [← hs.out.2.1]; exact hil)]
            have e5 : (laysB bs n)[i]'(by rw [← e2]; exact hil) = pad128 (partS fp8 bs n i) := by simp [laysB]
            rw [← e5]
            exact hux)
          have HUY : Hid (Rd w3 uy sy) := Lib.hid (by
            rw [HSY.out]
            unfold secW
            rw [if_pos (by rw [← hs.out.2.1]; exact hil)]
            have e5 : (laysB bs m)[i]'(by rw [← e2']; exact hil) = pad128 (partS fp8 bs m i) := by simp [laysB]
            rw [← e5]
            exact huy)
          have d1 : ∀ k, (w3.drewN k).cell? ⟨gx, ox + i, none⟩ = some ux := fun _ => cux
          have d2 : ∀ k, (w3.drewN k).cell? ⟨gy, oy + i, none⟩ = some uy := fun _ => cuy
          clear e3 e3' h9 h9' hrow hrow' hux huy cux cuy e1 e2 hA hg e1' e2' hA' hg' hil
          go_wp2_with (fail)
          go_quiet (fail)
          clear d1 d2
          obtain ⟨w4, hw4⟩ : ∃ w4 : World, w4 = w3.drewN nq := ⟨_, rfl⟩
          have A4 : Hid (SpcAt SC w pp dp S (.slice (some ⟨gx, ox, none⟩) lx cx) (.slice (some ⟨gy, oy, none⟩) lx cy) bs n m w4) := Lib.hid (by rw [hw4]; exact A3.out.on (below_drewN (Below.refl _ _) nq))
          have RC4 : Hid (Rd w4 cr zz) := Lib.hid (by rw [hw4]; exact RC3.out.drewN nq)
          have RX4 : Hid (Rd w4 ux sx) := Lib.hid (by rw [hw4]; exact HUX.out.drewN nq)
          have RY4 : Hid (Rd w4 uy sy) := Lib.hid (by rw [hw4]; exact HUY.out.drewN nq)
          rw [← hw4]
          clear hw4
        case' neg =>
          have hilI : ¬ (i : Int) < (lx : Int) := by omega
          obtain ⟨ux, hux⟩ : ∃ u, u = vx := ⟨_, rfl⟩
          obtain ⟨uy, huy⟩ : ∃ u, u = vy := ⟨_, rfl⟩
          rw [← hux] at RX
          rw [← huy] at RY
          rw [← hux, ← huy]
          obtain ⟨w4, hw4⟩ : ∃ w4 : World, w4 = w3 := ⟨_, rfl⟩
          have A4 : Hid (SpcAt SC w pp dp S (.slice Ax lx cx) (.slice Ay lx cy) bs n m w4) := Lib.hid (by rw [hw4]; exact A3.out)
          have RC4 : Hid (Rd w4 cr zz) := Lib.hid (by rw [hw4]; exact RC3.out)
          have RX4 : Hid (Rd w4 ux sx) := Lib.hid (by
            rw [hw4, HSX.out]
            unfold secW
            rw [if_neg (by rw [← hs.out.2.1]; exact hil)]
            exact RX.out)
          have RY4 : Hid (Rd w4 uy sy) := Lib.hid (by
            rw [hw4, HSY.out]
            unfold secW
            rw [if_neg (by rw [← hs.out.2.1]; exact hil)]
            exact RY.out)
          rw [← hw4]
          clear hw4 hil hux huy
        all_goals
          cases p with
          | true =>
            cases q with
            | true =>
              go_wp2_with (fail)
              refine (same_any cr ux zz sx w4 RC4.out RX4.out).mono ?_
              rintro e w5 ⟨rfl, nq5, rfl⟩
              rw [HBX.out]
              go_wp2_with (fail)
              refine (same_any cr uy zz sy _ (RC4.out.drewN nq5) (RY4.out.drewN nq5)).mono ?_
              rintro e w6 ⟨rfl, nq6, rfl⟩
              rw [HBY.out]
              go_wp2_with (fail)
              have hl := HLT.out
              exact ⟨⟨i + 1, true && bx, true && by', by go_num, by omega, rfl, rfl, and_next HP.out HPX.out, and_next HQ'.out HPY.out, A4.out.on (below_drewN (Below.refl _ _) _)⟩, by simp [intOf]; omega⟩
            | false =>
              go_wp2_with (fail)
              refine (same_any cr ux zz sx w4 RC4.out RX4.out).mono ?_
              rintro e w5 ⟨rfl, nq5, rfl⟩
              rw [HBX.out]
              go_wp2_with (fail)
              have hl := HLT.out
              exact ⟨⟨i + 1, true && bx, false && by', by go_num, by omega, rfl, rfl, and_next HP.out HPX.out, and_next HQ'.out HPY.out, A4.out.on (below_drewN (Below.refl _ _) _)⟩, by simp [intOf]; omega⟩
          | false =>
            cases q with
            | true =>
              go_wp2_with (fail)
              refine (same_any cr uy zz sy w4 RC4.out RY4.out).mono ?_
              rintro e w6 ⟨rfl, nq6, rfl⟩
              rw [HBY.out]
              go_wp2_with (fail)
              have hl := HLT.out
              exact ⟨⟨i + 1, false && bx, true && by', by go_num, by omega, rfl, rfl, and_next HP.out HPX.out, and_next HQ'.out HPY.out, A4.out.on (below_drewN (Below.refl _ _) _)⟩, by simp [intOf]; omega⟩
            | false =>
              go_wp2_with (fail)
              have hl := HLT.out
              exact ⟨⟨i + 1, false && bx, false && by', by go_num, by omega, rfl, rfl, and_next HP.out HPX.out, and_next HQ'.out HPY.out, A4.out.on (Below.refl _ _)⟩, by simp [intOf]; omega⟩
    · obtain rfl : i = 6 := by omega
      have HB := Lib.hid (And.intro hp (And.intro hq hat))
      clear hp hq hat hi hlt
      go_wp2_with (fail)
      exact HQ.out _ _ _ _ _ _ _ _ _ _ _ _ _ _ _ _ _ _ _ _ _ _ _ _ _ _ _ _ _ _ _ _ _ _ _ _ _ _ _ _ _ _ _ _ _ _ _ HB
end Go.Proofs.YtnaccngcpjkmbaaDoor
