/- The fourteenth law's third statement: DeltaEven. Premise: the contracts. -/
import Derived.Test.YtcicdbhffkpldaaPart7
import Derived.Test.YtcicdbhffkpldaaDevW
import Derived.Test.YtcicdbhffkpldaaPart12
import Derived.Test.YtcicdbhffkpldaaPart14
import Derived.Test.YtcicdbhffkpldaaRowI
namespace Go.Proofs.Ytcicdbhffkpldaa
open Go.RowKit

noncomputable def body_dev : Code := (((Try.f5.body.map loopsOf).getD [])[0]?).getD .skip
set_option maxRecDepth 100000 in
set_option maxHeartbeats 4000000 in
theorem dev_loop (c0 c2 c3 c4 c7 c8 c9 c10 c11 c12 c13 c14 c15 c16 c17 c18 c19 c20 c21 c22 c23 c24 c25 c26 c27 c28 c29 c30 c31 c32 c33 c34 c35 c36 c37 c38 c39 c40 c41 c42 c43 c44 c45 c46 c47 c48 c49 c50 c51 c52 c53 c54 c55 c56 c57 c58 c59 : Value) (w0 : World) (Az Am : Option Addr) (cz cm : Nat) (zs : List Int) (l : List Pc) (hz : Hid (RdI .i64 w0 (.slice Az zs.length cz) zs)) (hln : Hid (l.length ≤ maxLen)) (w : World) (h0 : Hid (∃ ms, DevS w0 (.slice Am l.length cm) l ms w)) {Q : Exit → Act → World → Prop}
    (HQ : Hid (∀ (u17 u18 u19 u20 u21 u22 u23 u24 u25 u26 u27 u28 u29 u30 u31 u32 u33 u34 u35 u36 y : Value) (w' : World) (ms : List Pc), Hid (DevS w0 (.slice Am l.length cm) l ms w') → Q (.exit 0) ⟨List.toArray (c0 :: (.slice Az zs.length cz) :: c2 :: c3 :: c4 :: (.slice Am l.length cm) :: y :: c7 :: c8 :: c9 :: c10 :: c11 :: c12 :: c13 :: c14 :: c15 :: c16 :: u17 :: u18 :: u19 :: u20 :: u21 :: u22 :: u23 :: u24 :: u25 :: u26 :: u27 :: u28 :: u29 :: u30 :: u31 :: u32 :: u33 :: u34 :: u35 :: u36 :: c37 :: c38 :: c39 :: c40 :: c41 :: c42 :: c43 :: c44 :: c45 :: c46 :: c47 :: c48 :: c49 :: c50 :: c51 :: c52 :: c53 :: c54 :: c55 :: c56 :: c57 :: c58 :: c59 :: []), []⟩ w')) :
    (Code.loop body_dev).wp Try.prog Q ⟨List.toArray (c0 :: (.slice Az zs.length cz) :: c2 :: c3 :: c4 :: (.slice Am l.length cm) :: (.int .i64 0) :: c7 :: c8 :: c9 :: c10 :: c11 :: c12 :: c13 :: c14 :: c15 :: c16 :: c17 :: c18 :: c19 :: c20 :: c21 :: c22 :: c23 :: c24 :: c25 :: c26 :: c27 :: c28 :: c29 :: c30 :: c31 :: c32 :: c33 :: c34 :: c35 :: c36 :: c37 :: c38 :: c39 :: c40 :: c41 :: c42 :: c43 :: c44 :: c45 :: c46 :: c47 :: c48 :: c49 :: c50 :: c51 :: c52 :: c53 :: c54 :: c55 :: c56 :: c57 :: c58 :: c59 :: []), []⟩ w := by
  unfold body_dev
  conv => arg 2; arg 1; whnf
  go_loopw [6] (fun x wx => ∃ (j : Nat) (ms : List Pc), x = .int .i64 (j : Int) ∧ j ≤ l.length ∧ DevS w0 (.slice Am l.length cm) l ms wx) (fun x _ => l.length - (intOf x).toNat)
  case atStart =>
    obtain ⟨ms, h⟩ := h0.out
    exact ⟨0, ms, rfl, Nat.zero_le _, h⟩
  case round =>
    obtain ⟨j, ms, rfl, hj, hs⟩ := hrel
    have hml := hln.out
    have hzl : zs.length ≤ maxLen := by
      obtain ⟨_, _, _, h, _⟩ := hz.out.ex
      exact h
    unfold maxLen at hml hzl
    have pI : (l.length : Int) ≤ 9223372036854775807 := by omega
    have zI : (zs.length : Int) ≤ 9223372036854775807 := by omega
    have hle := same_len hs.same
    by_cases hlt : j < l.length
    · have jI : (j : Int) < l.length := by omega
      by_cases hlz : j < zs.length
      · have jZ : (j : Int) < zs.length := by omega
        obtain ⟨g, rfl, hg⟩ := ownR_some hs.own (i := j) (by omega)
        have hzw := hz.out.below hs.old
        obtain ⟨Az', cz', he, _, hcz⟩ := hzw.ex
        obtain ⟨gz, oz, h1, _, hcellz, hwz⟩ := hcz j hlz
        injection he with he
        subst h1
        subst he
        have hcell := hs.own.cell j 2 (by rw [pcRows_len]; omega) (by decide)
        have hfree := hs.own.free (j * 5 + 2)
        rw [pcRows_at ms (by omega)] at hcell
        obtain ⟨z, hzz⟩ : ∃ z, z = zs[j] := ⟨_, rfl⟩
        rw [← hzz] at hcellz hwz
        obtain ⟨ms2, hm2⟩ : ∃ ms2, DevS w0 (.slice (some ⟨g, 0, none⟩) l.length cm) l ms2 (wr.setCell ⟨g, j * 5 + 2, none⟩ (.int .i64 z)) := ⟨_, dev_put hs (j := j) (by omega) hwz hg⟩
        have HN := Lib.hid hm2
        have hcell2 : wr.cell? ⟨g, j * 5 + 2, none⟩ = some (.int .i64 (ms[j]'(by omega)).v) := hcell
        obtain ⟨vo, hvo⟩ : ∃ vo, vo = (ms[j]'(by omega)).v := ⟨_, rfl⟩
        rw [← hvo] at hcell2
        have HLT := Lib.hid hlt
        clear hvo hm2 hcell hzz hwz hcz hs hle hml hzl hj hlt hlz hzw
        go_wp2_with (fail)
        have h1 := HLT.out
        refine ⟨⟨j + 1, ms2, by go_num, h1, HN.out⟩, by simp [intOf]; omega⟩
      · have jZ : ¬ (j : Int) < zs.length := by omega
        have HS := Lib.hid hs
        clear hs hle hml hzl hj hlt hlz
        go_wp2_with (fail)
        exact HQ.out _ _ _ _ _ _ _ _ _ _ _ _ _ _ _ _ _ _ _ _ _ _ ms HS
    · have jI : ¬ (j : Int) < l.length := by omega
      have HS := Lib.hid hs
      clear hs hle hml hzl hj hlt
      go_wp2_with (fail)
      exact HQ.out _ _ _ _ _ _ _ _ _ _ _ _ _ _ _ _ _ _ _ _ _ _ ms HS
set_option maxRecDepth 100000 in
set_option maxHeartbeats 4000000 in
theorem deltaEven.walkC (DC : DeltaC) (v0 : Value) (l : List Pc) (v1 : Value) (zs : List Int) (w : World) (k0 : RsP w v0 l) (k1 : RdI .i64 w v1 zs) :
    Calls Try.prog 5 #[v0, v1] w fun e w' => e = .returned (.bool true) ∧ Below w.heap.size w w' := by
  obtain ⟨ipc, hip, hipz, hips, hipb⟩ := inf_of info_pc
  obtain ⟨A0, c0, rfl, hm0⟩ := k0.form
  obtain ⟨A1, c1, rfl, _, _⟩ := k1.ex
  have K0 := Lib.hid k0
  have K1 := Lib.hid k1
  have HM0 := Lib.hid hm0
  have HA : Hid (∀ W : World, Calls Try.prog 7 #[] W fun e W' => e = .returned (.bool true) ∧ Below W.heap.size W W') := Lib.hid (awakeD_any DC)
  obtain ⟨W0, hW0⟩ : ∃ W : World, W = w.alloc (.cells #[] 46) := ⟨_, rfl⟩
  have D0 : Hid (Below w.heap.size w W0) := Lib.hid (by rw [hW0]; exact (Below.refl _ _).alloc (Nat.le_refl _) _)
  have O0 : Hid (OwnR 5 W0 w.heap.size 46 (.slice (some ⟨w.heap.size, 0, none⟩) 0 0) []) := Lib.hid ⟨fun l hl => (List.not_mem_nil hl).elim, by
    rw [hW0]
    exact World.ownsRow_lit w #[] 0 (Nat.le_refl _) (Nat.zero_le _) rfl⟩
  have HW0 := Lib.hid hW0
  clear k0 k1 hm0 hW0
  go_enter Try.func5, Try.ntmps5
  go_wp2_with (fail)
  refine (refGreatP_any 120 _ l w K0.out).mono ?_
  rintro e wg ⟨b, rfl, hb0, hwg⟩
  replace hwg := hwg.symm
  subst hwg
  cases b with
  | true =>
    clear hb0
    go_wp2_with (fail)
    refine (HA.out _).mono ?_
    rintro e w1 ⟨rfl, hb⟩
    have B := Lib.hid hb
    clear hb
    go_wp2_with (fail)
    go_ret
    exact ⟨rfl, B.out⟩
  | false =>
    have N0 := Lib.hid (hb0 rfl)
    clear hb0
    have hn1 : ([] : List (List Value)).length + l.length ≤ maxLen := by have := N0.out.1; unfold maxLen; simp; omega
    have hn2 : (([] : List (List Value)).length + l.length) * 48 ≤ 140737488355328 := by have := N0.out.1; simp; omega
    have HN1 := Lib.hid hn1
    have HN2 := Lib.hid hn2
    clear hn1 hn2
    go_wp2_with (at_builtin
                 rw [← HW0.out]
                 refine wpList_append_pcs W0 rfl _ _ _ rfl w.heap.size 46 ipc _ 48 Try.underlying22 hip hipz hips hipb rfl _ [] rfl O0.out _ _ l rfl (K0.out.below (D0.out.mono (Nat.le_refl _))) HN1.out HN2.out D0.out.size ?_
                 intro u1 w1 own1 nx1)
    have hS0 : DevS w u1 l l w1 := ⟨rfl, K0.out.ok, own1, D0.out.trans nx1.below⟩
    obtain ⟨Am, cm, rfl, _⟩ := own1.form
    rw [List.nil_append, pcRows_len] at hS0 ⊢
    have S0 : Hid (∃ ms, DevS w (.slice Am l.length cm) l ms w1) := Lib.hid ⟨l, hS0⟩
    clear own1 nx1 hS0
    go_wp2_with (fail)
    refine dev_loop _ _ _ _ _ _ _ _ _ _ _ _ _ _ _ _ _ _ _ _ _ _ _ _ _ _ _ _ _ _ _ _ _ _ _ _ _ _ _ _ _ _ _ _ _ _ _ _ _ _ _ _ _ _ _ _ _ w A1 Am c1 cm zs l K1 HM0 w1 S0 (Lib.hid ?_)
    intro u17 u18 u19 u20 u21 u22 u23 u24 u25 u26 u27 u28 u29 u30 u31 u32 u33 u34 u35 u36 y w2 ms S2
    go_wp2_with (fail)
    refine (DC.lay _ l w2 (K0.out.below S2.out.old) (by have := N0.out.1; omega) (fun p hp => by have := N0.out.2 p hp; omega)).mono ?_
    rintro e w3 ⟨u3, rfl, hr3, hb3⟩
    have hsz : ∀ p ∈ ms, p.s.size ≤ 1000 := fun q hq => by
      have h1 : butV q ∈ l.map butV := by rw [S2.out.same]; exact List.mem_map_of_mem hq
      obtain ⟨p, hp, e⟩ := List.mem_map.1 h1
      have e : p.s = q.s := congrArg (·.1) e
      have := N0.out.2 p hp
      rw [← e]
      omega
    have hl2 := same_len S2.out.same
    have R2 := ownR_rsp S2.out.own S2.out.ok (by rw [hl2]; exact HM0.out)
    have hck := check_even S2.out.same
    have hev : (if checkD l = 0 then layD l else []).length = (if checkD ms = 0 then layD ms else []).length := by
      rw [← hck]
      split
      · next h => exact even_len S2.out.same (check_ok.1 h)
      · rfl
    have HL4 := Lib.hid (DC.lay _ ms w3 (R2.below hb3) (by have := N0.out.1; omega) hsz)
    have B3 := Lib.hid (S2.out.old.trans (hb3.mono S2.out.old.size))
    obtain ⟨A3, c3, rfl, _, _⟩ := hr3.form
    obtain ⟨n3, hn3⟩ : ∃ n3, n3 = (if checkD l = 0 then layD l else []).length := ⟨_, rfl⟩
    rw [← hn3] at hev ⊢
    rw [← hck] at HL4 hev
    obtain ⟨k, hk⟩ : ∃ k : Nat, k = checkD l := ⟨_, rfl⟩
    rw [← hk] at HL4 hev ⊢
    have HEV := Lib.hid hev
    clear hr3 hb3 hsz hl2 R2 hck hev hn3 hk
    go_wp2_with (fail)
    refine HL4.out.mono ?_
    rintro e w4 ⟨u4, rfl, hr4, hb4⟩
    obtain ⟨A4, c4, rfl, _, _⟩ := hr4.form
    rw [← HEV.out]
    have B4 := Lib.hid (B3.out.trans (hb4.mono B3.out.size))
    clear hr4 hb4
    go_wp2_with (fail)
    refine (HA.out _).mono ?_
    rintro e w5 ⟨rfl, hb⟩
    have B5 := Lib.hid (B4.out.trans (hb.mono B4.out.size))
    clear hb
    go_wp2_with (fail)
    go_ret
    exact ⟨rfl, B5.out⟩
end Go.Proofs.Ytcicdbhffkpldaa
