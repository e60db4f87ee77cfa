/- Part 30 of the words that the laws share: DsW, DsX, DsY, DsK, DsF. No condition of its own: each theorem says its own. -/
import Derived.Test.YtbodiioemohenaaDoorPart27
import Derived.Test.YtbodiioemohenaaDoorPart2
import Derived.Test.YtbodiioemohenaaDoorPart23
import Derived.Test.YtbodiioemohenaaDoorPart4
import Derived.BigRegion
import Derived.Shelf.SlMaps.Clone

/- A disk's maps laid; Write, where it writes. Conditions: fewer than a million changes. -/
namespace Go.Proofs.YtbodiioemohenaaDoor
open Go.RowKit

/-- A map held against nil. -/
theorem run_neq_map_nil (w : World) (t k e : TypeId) (p : Option Nat) (b : Bool) (hb : p.isSome = b) (h : Tryd.prog.underlying t = some (.map k e)) : (binOp .neq t (.map p) (.map none)).run Tryd.prog w = .ok (.bool b) w := by
  subst hb
  simp only [binOp]
  simp [show Op.equal t (.map p) (.map none) = Op.equalIn (9999 + 1) t (.map p) (.map none) from rfl, run_equalIn_map_nil_sl w 9999 t k e p h]
theorem wrF_fun {S : DS} (h : ∀ k, wrF S.L k = none) : wrF S.L = fun _ => none := funext h
theorem toF_fun {S : DS} (h : ∀ k, toF S.L k = none) : toF S.L = fun _ => none := funext h
set_option maxRecDepth 100000 in
set_option maxHeartbeats 1000000 in
theorem lay_some {w : World} {X b : Nat} (c1 : w.cell? ⟨X, 1, none⟩ = some (.map (some b))) : Calls Tryd.prog 53 #[.pointer (some ⟨X, 0, none⟩)] w fun e w' => e = .returned (.tuple #[]) ∧ w' = w := by
  have hq := fun w => run_neq_map_nil w 42 _ _ (some b) true rfl Tryd.underlying42
  go_enter Tryd.func53, Tryd.ntmps53
  go_wp2_with (fail)
  (try simp only [Exit.inBlock, Exit.then])
  refine bodyPost_ret (results_none rfl _ _ _) rfl ?_
  exact ⟨rfl, rfl⟩
set_option maxRecDepth 100000 in
set_option maxHeartbeats 1000000 in
theorem lay_none {w : World} {X : Nat} {S : DS} (h : Dk w X none none none S) : Calls Tryd.prog 53 #[.pointer (some ⟨X, 0, none⟩)] w fun e w' => e = .returned (.tuple #[]) ∧ Dk w' X (some w.heap.size) (some (w.heap.size + 1)) (some (w.heap.size + 2)) S ∧ Chg (fun k => k = X) w w' := by
  obtain ⟨N, hN⟩ : ∃ N, w.heap.size = N := ⟨_, rfl⟩
  have hX : X < N := by rw [← hN]; exact h.blk.lt
  have H := Lib.hid h
  have HN := Lib.hid hN
  have c1 : w.cell? ⟨X, 1, none⟩ = some (.map none) := by rw [h.blk.cell]; rfl
  rw [hN]
  have hq := fun w => run_neq_map_nil w 42 _ _ none false rfl Tryd.underlying42
  clear h hN
  go_enter Tryd.func53, Tryd.ntmps53
  go_wp2_with (first
    | (with_reducible refine here_map ?_
       refine wpList_makeMapI rfl 42 rfl N HN.out ?_
       intro w1 m1 b1 z1
       have K1 := Lib.hid (H.out.blk.below b1 hX)
       have M1 := Lib.hid m1
       have B1 := Lib.hid b1
       have Z1 := Lib.hid z1
       have x1 : w1.cell? ⟨X, 0, none⟩ = some (.map none) := by rw [K1.out.cell]; rfl
       have y1 := K1.out.free 0
       clear m1 b1 z1)
    | (with_reducible refine here_map ?_
       refine wpList_makeMapI rfl 42 rfl (N + 1) (by simp [World.setCell, Z1.out]) ?_
       intro w2 m2 b2 z2
       have K2 := Lib.hid ((K1.out.set 0 (.map (some N))).below b2 (by omega))
       have M2 := Lib.hid m2
       have B2 := Lib.hid b2
       have Z2 := Lib.hid z2
       have x2 : w2.cell? ⟨X, 1, none⟩ = some (.map none) := by rw [K2.out.cell]; rfl
       have y2 := K2.out.free 1
       clear m2 b2 z2 x1 y1)
    | (with_reducible refine here_map ?_
       refine wpList_makeMapI rfl 43 rfl (N + 2) (by simp [World.setCell, Z2.out]) ?_
       intro w3 m3 b3 z3
       have K3 := Lib.hid ((K2.out.set 1 (.map (some (N + 1)))).below b3 (by omega))
       have M3 := Lib.hid m3
       have B3 := Lib.hid b3
       have Z3 := Lib.hid z3
       have x3 : w3.cell? ⟨X, 2, none⟩ = some (.map none) := by rw [K3.out.cell]; rfl
       have y3 := K3.out.free 2
       clear m3 b3 z3 x2 y2))
  go_end0
  have D1 : Chg (fun k => k = X) w w1 := (chg_below (HN.out ▸ B1.out : Below w.heap.size w w1) : Chg _ _ _)
  have z1 := Z1.out
  have z2 := Z2.out
  have z3 := Z3.out
  have e1 : (w1.setCell ⟨X, 0, none⟩ (.map (some N))).heap.size = N + 1 := by simp [World.setCell, z1]
  have e2 : (w2.setCell ⟨X, 1, none⟩ (.map (some (N + 1)))).heap.size = N + 2 := by simp [World.setCell, z2]
  have D1' : Chg (fun k => k = X) w1 (w1.setCell ⟨X, 0, none⟩ (.map (some N))) := Chg.setCell _ _ _ _ _ rfl
  have D2 : Chg (fun k => k = X) (w1.setCell ⟨X, 0, none⟩ (.map (some N))) w2 := chg_below (e1 ▸ B2.out)
  have D2' : Chg (fun k => k = X) w2 (w2.setCell ⟨X, 1, none⟩ (.map (some (N + 1)))) := Chg.setCell _ _ _ _ _ rfl
  have D3 : Chg (fun k => k = X) (w2.setCell ⟨X, 1, none⟩ (.map (some (N + 1)))) w3 := chg_below (e2 ▸ B3.out)
  have D3' : Chg (fun k => k = X) w3 (w3.setCell ⟨X, 2, none⟩ (.map (some (N + 2)))) := Chg.setCell _ _ _ _ _ rfl
  have J1 := chg_join (chg_join D2' D3) D3'
  have J2 := chg_join (chg_join D1' D2) J1
  obtain ⟨f, hf1, hf2⟩ := H.out.safe
  have hw := wrF_fun H.out.wr
  have ht := toF_fun H.out.torn
  refine ⟨rfl, ⟨?_, ⟨fun _ => none, ?_, fun k => ?_⟩, ?_, ?_, fun x hx => ?_, fun x hx => ?_, fun x hx => ?_, ⟨rfl, rfl⟩, H.out.ok, H.out.opn, H.out.fuse, H.out.ops⟩, chg_join D1 J2⟩
  · exact K3.out.set 2 (.map (some (N + 2)))
  · exact M1.out.chg J2 (by show ¬ N = X; omega)
  · rw [← hf2 k, hf1 k]
  · rw [hw]
    exact M2.out.chg J1 (by show ¬ N + 1 = X; omega)
  · rw [ht]
    exact M3.out.chg D3' (by show ¬ N + 2 = X; omega)
  · injection hx with hx
    refine ⟨by omega, fun e => ?_, fun e => ?_⟩
    · injection e with e; omega
    · injection e with e; omega
  · injection hx with hx
    refine ⟨by omega, fun e => ?_⟩
    injection e with e; omega
  · injection hx with hx
    omega
theorem lay_any {w : World} {X : Nat} {a b c : Option Nat} {S : DS} (h : Dk w X a b c S) : Calls Tryd.prog 53 #[.pointer (some ⟨X, 0, none⟩)] w fun e w' => e = .returned (.tuple #[]) ∧ ∃ a' b' c', Dk w' X (some a') (some b') (some c') S ∧ (∀ k, DkF X (some a') (some b') (some c') k → DkF X a b c k ∨ w.heap.size ≤ k) ∧ Chg (DkF X a b c) w w' := by
  obtain ⟨h1, h2⟩ := h.same
  cases b with
  | none =>
    cases a with
    | some a => cases h1
    | none =>
      cases c with
      | some c => cases h2
      | none =>
        refine (lay_none h).mono ?_
        rintro e w' ⟨rfl, hd, hc⟩
        refine ⟨rfl, _, _, _, hd, fun k hk => ?_, hc.mono fun k hk => .inl hk⟩
        rcases hk with hk | hk | hk | hk
        · exact .inl (.inl hk)
        · injection hk with hk; exact .inr (by omega)
        · injection hk with hk; exact .inr (by omega)
        · injection hk with hk; exact .inr (by omega)
  | some b =>
    cases a with
    | none => cases h1
    | some a =>
      cases c with
      | none => cases h2
      | some c =>
        refine (lay_some (by rw [h.blk.cell]; rfl : w.cell? ⟨X, 1, none⟩ = some (.map (some b)))).mono ?_
        rintro e w' ⟨rfl, rfl⟩
        exact ⟨rfl, a, b, c, h, fun k hk => .inl hk, Chg.refl _ _⟩
end Go.Proofs.YtbodiioemohenaaDoor

/- A disk's Write. Conditions: fewer than a million changes; the bytes don't lie in the disk. -/
namespace Go.Proofs.YtbodiioemohenaaDoor
open Go.RowKit

/-- A sector has been written. -/
theorem Dk.put {w w' : World} {X a b c : Nat} {S : DS} (h : Dk w X (some a) (some b) (some c) S) {k : Int} (hk : 0 ≤ k ∧ k < 1024) {bs : List UInt8} (hl : bs.length ≤ 128) (hm : MapI w' b (updF (wrF S.L) k (some (arrV (pad128 bs))))) (hc : Chg (fun j => j = b) w w') : Dk w' X (some a) (some b) (some c) { S with L := writeL S.L k.toNat bs } := by
  obtain ⟨f, hf1, hf2⟩ := h.safe
  have e : ((k.toNat : Nat) : Int) = k := by omega
  have na := h.na a rfl
  have nb := h.nb b rfl
  have nc := h.nc c rfl
  refine ⟨hc.blk h.blk (fun e => nb.1 e.symm), ⟨f, hf1.chg hc fun j hj e => ?_, fun x => ?_⟩, ?_, ?_, h.na, h.nb, h.nc, h.same, dok_writeL h.ok (by omega) hl, opn_write h.opn _ _, h.fuse, h.ops⟩
  · injection hj with hj
    exact na.2.1 (by rw [hj, e])
  · rw [hf2, safeB_write]
  · show MapI w' b (wrF (writeL S.L k.toNat bs))
    rw [wrF_write, e]
    exact hm
  · show MapO w' (some c) (toF (writeL S.L k.toNat bs))
    rw [toF_write]
    exact h.torn.chg hc fun j hj e => by
      injection hj with hj
      exact nb.2 (by rw [hj, e])
set_option maxRecDepth 100000 in
set_option maxHeartbeats 2000000 in
theorem dkWrite_main {w : World} {X : Nat} {a b c : Option Nat} {S : DS} (h : Dk w X a b c S) (k : Int) (hk : 0 ≤ k ∧ k < 1024) (A : Option Addr) (cu : Nat) (bs : List UInt8) (hr : Rd w (.slice A bs.length cu) bs) (hl : bs.length ≤ 128) (hd : S.dead = false) (ho : S.ops < 1000000)
    (hu : 0 < bs.length → ∀ j, (Value.slice A bs.length cu).ownBlock = some j → ¬ DkF X a b c j) :
    Calls Tryd.prog 37 #[.pointer (some ⟨X, 0, none⟩), .int .i64 k, .slice A bs.length cu] w fun e w' => e = .returned (.int .i64 (if (burnS { S with L := writeL S.L k.toNat bs }).2 then 10 else 0)) ∧
      ∃ a' b' c', Dk w' X a' b' c' (burnS { S with L := writeL S.L k.toNat bs }).1 ∧ (∀ k, DkF X a' b' c' k → DkF X a b c k ∨ w.heap.size ≤ k) ∧ Chg (DkF X a b c) w w' := by
  obtain ⟨S1, hS1⟩ : ∃ S1 : DS, S1 = { S with L := writeL S.L k.toNat bs } := ⟨_, rfl⟩
  obtain ⟨cd, hcd⟩ : ∃ cd : Int, cd = (if (burnS S1).2 then 10 else 0) := ⟨_, rfl⟩
  rw [← hS1, ← hcd]
  have HS1 := Lib.hid hS1
  have HCD := Lib.hid hcd
  have HC := Lib.hid (dkRefuses (d := false) (by rw [h.blk.cell, ← hd]; rfl : w.cell? ⟨X, 5, none⟩ = some (.bool false)))
  have HLY := Lib.hid (lay_any h)
  have HU := Lib.hid hu
  have HR := Lib.hid hr
  have HL := Lib.hid hl
  have HO := Lib.hid ho
  have g1 : decide (k < 0) = false := decide_eq_false (by omega)
  have g2 : decide (1024 ≤ k) = false := decide_eq_false (by omega)
  have g3 : decide ((128 : Int) < (bs.length : Int)) = false := decide_eq_false (by omega)
  obtain ⟨zz, hzz⟩ : ∃ zz, zz = z128 := ⟨_, rfl⟩
  obtain ⟨pl, hpl⟩ : ∃ pl, pl = pad128 bs := ⟨_, rfl⟩
  have HZZ := Lib.hid hzz
  have HPL := Lib.hid hpl
  have HZ : Hid (zz.length = 128) := Lib.hid (by rw [hzz]; rfl)
  have HSP : Hid (splice zz 0 (bs.take bs.length) = pl) := Lib.hid (by
    rw [hzz, hpl, List.take_of_length_le (Nat.le_refl _)]
    unfold splice pad128 z128
    rw [List.take_zero, List.nil_append, Nat.zero_add, List.drop_replicate])
  have HPM : Hid ((pl.map bv).length = 128) := Lib.hid (by rw [List.length_map, hpl]; exact pad128_length hl)
  have HSZ : Hid ((Tryd.prog.info? 63).map (·.size) = some (pl.map bv).length) := Lib.hid (by rw [HPM.out]; exact size128)
  have HU8 : Hid ((Tryd.prog.info? 5).map (·.size) = some 1) := Lib.hid (by kernel_rfl)
  have HK := Lib.hid hk
  clear h hS1 hcd hu hr hl ho hzz hpl hd hk
  go_enter Tryd.func37, Tryd.ntmps37
  go_wp2_with (fail)
  refine HC.out.mono ?_
  rintro e w1 ⟨rfl, rfl⟩
  go_wp2_with (fail)
  refine HLY.out.mono ?_
  rintro e w2 ⟨rfl, a', b', c', hd2, hF2, hc2⟩
  obtain ⟨C, hC⟩ : ∃ C, w2.heap.size = C := ⟨_, rfl⟩
  have HCC := Lib.hid hC
  have HD2 := Lib.hid hd2
  have HF2 := Lib.hid hF2
  have HC2 := Lib.hid hc2
  have HR2 := Lib.hid (chg_rd0 hc2 HR.out HU.out)
  have hsl := fun W => slice128 C W
  clear hC hd2 hF2 hc2
  go_wp2_with (first
    | (with_reducible refine here_alloc ?_
       refine wpList_alloc_w rfl 63 rfl (zz.map bv) (by rw [HZZ.out]; exact zeroArr) C HCC.out ?_
       intro w3 k3 b3 z3
       have K3 := Lib.hid k3
       have B3 := Lib.hid (HCC.out ▸ b3 : Below w2.heap.size w2 w3)
       have R3 := Lib.hid (HR2.out.below B3.out)
       clear k3 b3 z3)
    | (refine wpList_copy_rd rfl (.tmp 24) (.tmp 25) _ _ rfl 5 Tryd.underlying23 HU8.out (some ⟨C, 0, none⟩) 128 128 rfl _ rfl bs R3.out C 0 zz 63 K3.out bs.length (by have := HL.out; omega) (fun _ => rfl) (by have := HL.out; have := HZ.out; omega) ?_
       intro w4 k4 s4
       rw [HSP.out] at k4
       have K4 := Lib.hid k4
       have B4 := Lib.hid (B3.out.trans (s4.below.mono (Nat.le_of_eq HCC.out)))
       have cX : ∀ m, (w4.drewN m).cell? ⟨X, 1, none⟩ = some (.map (some b')) := fun m => by
         have h1 := (Chg.of_below B4.out).blk HD2.out.blk (by have := HD2.out.blk.lt; omega)
         rw [(h1.drewN m).cell]
         rfl
       have RNG : Hid (∀ W, (∃ n, W = w4.drewN n) → W.rangeAt C 0 (pl.map bv)) := Lib.hid (by
         have h1 := range_drewN (K4.out.range 0)
         rw [List.drop_zero] at h1
         exact h1)
       clear k4 s4 B3 K3 R3
       go_frame))
  refine wp_quiet_tail 6 (by kernel_rfl) (by kernel_rfl) (by kernel_rfl) (by kernel_rfl) (by kernel_rfl) (by kernel_rfl) (by kernel_rfl) (by kernel_rfl) ?_
  simp only [List.take_succ_cons, List.take_zero, List.drop_succ_cons, List.drop_zero]
  repeat (go_big_quiet_step (fail))
  refine wpQuiet_load_mid rfl 32 rfl 63 (.tmp 7) rfl C 0 rfl (pl.map bv) _ RNG.out Tryd.underlying63 rfl HSZ.out ?_
  simp only [List.set_cons_zero, List.set_cons_succ]
  refine wpQuiet_nil ?_
  intro wq hwq
  obtain ⟨nq, rfl⟩ := hwq
  have HQ : Hid (Chg (fun j => w2.heap.size ≤ j) w2 (w4.drewN nq)) := Lib.hid (Chg.drewN _ (Chg.of_below B4.out) nq)
  have HDQ : Hid (Dk (w4.drewN nq) X (some a') (some b') (some c') S) := Lib.hid (HD2.out.other HQ.out fun j hj e => by have := HD2.out.lt j hj; omega)
  clear cX RNG
  go_upto_region 11 with (first
    | (with_reducible refine here_upd ?_
       refine wpList_updateI rfl _ _ _ 42 63 rfl Tryd.underlying42 rfl HDQ.out.wr HK.out rfl (arrV pl) rfl ?_
       intro w5 m5 c5
       have M5 := Lib.hid m5
       have C5 := Lib.hid c5
       clear m5 c5
       go_frame))
  have HD5 : Hid (Dk w5 X (some a') (some b') (some c') S1) := Lib.hid (by
    rw [HS1.out]
    have hl := HL.out
    have hm := M5.out
    rw [HPL.out] at hm
    exact HDQ.out.put HK.out hl hm C5.out)
  have HO1 : Hid (S1.ops < 1000000) := Lib.hid (by rw [HS1.out]; exact HO.out)
  go_wp2_with (fail)
  refine (change_any HD5.out.blk HD5.out.fuse HO1.out).mono ?_
  rintro e w6 ⟨rfl, hb6, hs6⟩
  rw [← HCD.out]
  have K6 := Lib.hid hb6
  have S6 := Lib.hid hs6
  clear hb6 hs6
  go_wp2_with (fail)
  go_ret
  have hfz : ((burnS S1).1.fuse : Int) ≤ 9223372036854775807 := by
    have h1 := HD5.out.fuse
    have h2 : (burnS S1).1.fuse ≤ S1.fuse := by
      unfold burnS
      split
      · split
        · exact Nat.zero_le _
        · exact Nat.sub_le _ _
      · exact Nat.le_refl _
    omega
  refine ⟨rfl, some a', some b', some c', HD5.out.head S6.out (burnS_L _) K6.out hfz (by rw [burnS_ops]; exact HO1.out), HF2.out, ?_⟩
  have hb : DkF X (some a') (some b') (some c') b' := .inr (.inr (.inl rfl))
  have hX : DkF X (some a') (some b') (some c') X := .inl rfl
  have h1 : Chg (fun j => DkF X a b c j ∨ w1.heap.size ≤ j) w2 (w4.drewN nq) := HQ.out.mono fun j hj => .inr (Nat.le_trans HC2.out.size hj)
  have h2 : Chg (fun j => DkF X a b c j ∨ w1.heap.size ≤ j) (w4.drewN nq) w5 := C5.out.mono fun j hj => by rw [hj]; exact HF2.out b' hb
  have h3 : Chg (fun j => DkF X a b c j ∨ w1.heap.size ≤ j) w5 w6 := (sole_only S6.out).mono fun j hj => by rw [hj]; exact HF2.out X hX
  exact HC2.out.trans (chg_join (chg_join h1 h2) h3)
end Go.Proofs.YtbodiioemohenaaDoor

/- A disk's Write, whole. Conditions: fewer than a million changes; the bytes don't lie in the disk. -/
namespace Go.Proofs.YtbodiioemohenaaDoor
open Go.RowKit

set_option maxRecDepth 100000 in
set_option maxHeartbeats 2000000 in
theorem dkWrite_bad {w : World} {X : Nat} {S : DS} (c5 : w.cell? ⟨X, 5, none⟩ = some (.bool S.dead)) (k : Int) (A : Option Addr) (cu : Nat) (bs : List UInt8) (hw : S.dead = true ∨ (k < 0 ∨ 1024 ≤ k) ∨ 128 < bs.length) :
    Calls Tryd.prog 37 #[.pointer (some ⟨X, 0, none⟩), .int .i64 k, .slice A bs.length cu] w fun e w' => e = .returned (.int .i64 ((writeS S k bs).2 : Int)) ∧ (writeS S k bs).1 = S ∧ w' = w := by
  have HC := Lib.hid (dkRefuses c5)
  obtain ⟨n, hn⟩ : ∃ n, (writeS S k bs).2 = n := ⟨_, rfl⟩
  rw [hn]
  have HN := Lib.hid hn
  obtain ⟨d, hd⟩ : ∃ d, S.dead = d := ⟨_, rfl⟩
  rw [hd] at HC
  have HW := Lib.hid hw
  clear c5 hn hw
  cases d with
  | true =>
    have HE : Hid (writeS S k bs = (S, 10)) := Lib.hid (by unfold writeS; rw [if_pos hd])
    clear hd
    go_enter Tryd.func37, Tryd.ntmps37
    go_wp2_with (fail)
    refine HC.out.mono ?_
    rintro e w1 ⟨rfl, rfl⟩
    go_wp2_with (fail)
    go_ret
    refine ⟨?_, by rw [HE.out], rfl⟩
    rw [← HN.out, HE.out]
    rfl
  | false =>
    have hnd : ¬ S.dead = true := by rw [hd]; decide
    by_cases h1 : k < 0
    · have HE : Hid (writeS S k bs = (S, 1)) := Lib.hid (by unfold writeS; rw [if_neg hnd, if_pos (.inl h1)])
      have g1 : decide (k < 0) = true := decide_eq_true h1
      clear hd hnd h1
      go_enter Tryd.func37, Tryd.ntmps37
      go_wp2_with (fail)
      refine HC.out.mono ?_
      rintro e w1 ⟨rfl, rfl⟩
      go_wp2_with (fail)
      go_ret
      refine ⟨?_, by rw [HE.out], rfl⟩
      rw [← HN.out, HE.out]
      rfl
    · by_cases h2 : 1024 ≤ k
      · have HE : Hid (writeS S k bs = (S, 1)) := Lib.hid (by unfold writeS; rw [if_neg hnd, if_pos (.inr h2)])
        have g1 : decide (k < 0) = false := decide_eq_false h1
        have g2 : decide (1024 ≤ k) = true := decide_eq_true h2
        clear hd hnd h1 h2
        go_enter Tryd.func37, Tryd.ntmps37
        go_wp2_with (fail)
        refine HC.out.mono ?_
        rintro e w1 ⟨rfl, rfl⟩
        go_wp2_with (fail)
        go_ret
        refine ⟨?_, by rw [HE.out], rfl⟩
        rw [← HN.out, HE.out]
        rfl
      · have h3 : 128 < bs.length := by
          rcases HW.out with h | h | h
          · rw [hd] at h; cases h
          · omega
          · exact h
        have HE : Hid (writeS S k bs = (S, 3)) := Lib.hid (by unfold writeS; rw [if_neg hnd, if_neg (by omega), if_pos h3])
        have g1 : decide (k < 0) = false := decide_eq_false h1
        have g2 : decide (1024 ≤ k) = false := decide_eq_false h2
        have g3 : decide ((128 : Int) < (bs.length : Int)) = true := decide_eq_true (by omega)
        clear hd hnd h1 h2 h3
        go_enter Tryd.func37, Tryd.ntmps37
        go_wp2_with (fail)
        refine HC.out.mono ?_
        rintro e w1 ⟨rfl, rfl⟩
        go_wp2_with (fail)
        go_ret
        refine ⟨?_, by rw [HE.out], rfl⟩
        rw [← HN.out, HE.out]
        rfl
theorem dkWrite_any {w : World} {X : Nat} {a b c : Option Nat} {S : DS} (h : Dk w X a b c S) (k : Int) (u : Value) (bs : List UInt8) (hr : Rd w u bs) (ho : S.ops < 1000000) (hu : 0 < bs.length → ∀ j, u.ownBlock = some j → ¬ DkF X a b c j) :
    Calls Tryd.prog 37 #[.pointer (some ⟨X, 0, none⟩), .int .i64 k, u] w fun e w' => e = .returned (.int .i64 ((writeS S k bs).2 : Int)) ∧
      ∃ a' b' c', Dk w' X a' b' c' (writeS S k bs).1 ∧ (∀ k, DkF X a' b' c' k → DkF X a b c k ∨ w.heap.size ≤ k) ∧ Chg (DkF X a b c) w w' := by
  obtain ⟨A, cu, rfl, _⟩ := hr.form
  by_cases hw : S.dead = true ∨ (k < 0 ∨ 1024 ≤ k) ∨ 128 < bs.length
  · refine (dkWrite_bad (by rw [h.blk.cell]; rfl) k A cu bs hw).mono ?_
    rintro e w' ⟨rfl, h2, rfl⟩
    refine ⟨rfl, a, b, c, ?_, fun k hk => .inl hk, Chg.refl _ _⟩
    rw [h2]
    exact h
  · have hd : S.dead = false := by
      cases hd : S.dead with
      | true => exact absurd (.inl hd) hw
      | false => rfl
    have hk : ¬ (k < 0 ∨ 1024 ≤ k) := fun e => hw (.inr (.inl e))
    have hl : ¬ 128 < bs.length := fun e => hw (.inr (.inr e))
    have E : writeS S k bs = ((burnS { S with L := writeL S.L k.toNat bs }).1, if (burnS { S with L := writeL S.L k.toNat bs }).2 then 10 else 0) := by
      unfold writeS
      rw [if_neg (by rw [hd]; decide), if_neg hk, if_neg hl]
    rw [E]
    refine (dkWrite_main h k (by omega) A cu bs hr (by omega) hd ho hu).mono ?_
    rintro e w' ⟨rfl, h2⟩
    refine ⟨?_, h2⟩
    cases (burnS { S with L := writeL S.L k.toNat bs }).2 <;> rfl
end Go.Proofs.YtbodiioemohenaaDoor

/- A written sector becomes the safe one. Conditions: the maps are three. -/
namespace Go.Proofs.YtbodiioemohenaaDoor
open Go.RowKit

/-- Where a disk's maps are, and that they are three. -/
structure Tri (W : World) (X a b c : Nat) : Prop where
  c0 : W.cell? ⟨X, 0, none⟩ = some (.map (some a))
  c1 : W.cell? ⟨X, 1, none⟩ = some (.map (some b))
  c2 : W.cell? ⟨X, 2, none⟩ = some (.map (some c))
  ne : X ≠ a ∧ X ≠ b ∧ X ≠ c ∧ a ≠ b ∧ a ≠ c ∧ b ≠ c
  lt : X < W.heap.size
theorem Tri.chg {W W' : World} {X a b c : Nat} {G : Nat → Prop} (h : Tri W X a b c) (hc : Chg G W W') (hG : ¬ G X) : Tri W' X a b c :=
  ⟨(hc.cell h.lt hG).trans h.c0, (hc.cell h.lt hG).trans h.c1, (hc.cell h.lt hG).trans h.c2, h.ne, Nat.lt_of_lt_of_le h.lt hc.size⟩
theorem Dk.tri {w : World} {X a b c : Nat} {S : DS} (h : Dk w X (some a) (some b) (some c) S) : Tri w X a b c := by
  have na := h.na a rfl
  have nb := h.nb b rfl
  have nc := h.nc c rfl
  refine ⟨by rw [h.blk.cell]; rfl, by rw [h.blk.cell]; rfl, by rw [h.blk.cell]; rfl, ⟨na.1.symm, nb.1.symm, nc.symm, fun e => na.2.1 (by rw [e]), fun e => na.2.2 (by rw [e]), fun e => nb.2 (by rw [e])⟩, h.blk.lt⟩
set_option maxRecDepth 100000 in
set_option maxHeartbeats 2000000 in
theorem keep_any {w : World} {X a b c : Nat} {f g h : Int → Option Value} (ht : Tri w X a b c) (hf : MapI w a f) (hg : MapI w b g) (hh : MapI w c h) (k : Int) (hk : 0 ≤ k ∧ k < 1024) (v : Value) (hv : (g k).getD (arrV z128) = v) :
    Calls Tryd.prog 40 #[.pointer (some ⟨X, 0, none⟩), .int .i64 k] w fun e w' => e = .returned (.tuple #[]) ∧ MapI w' a (updF f k (some v)) ∧ MapI w' c (updF h k none) ∧ Chg (fun j => j = a ∨ j = c) w w' := by
  have HT := Lib.hid ht
  have HF := Lib.hid hf
  have HG := Lib.hid hg
  have HH := Lib.hid hh
  have HV := Lib.hid hv
  have HK := Lib.hid hk
  have x0 : ∀ m, (w.drewN m).cell? ⟨X, 0, none⟩ = some (.map (some a)) := fun _ => ht.c0
  have x1 : ∀ m, (w.drewN m).cell? ⟨X, 1, none⟩ = some (.map (some b)) := fun _ => ht.c1
  clear ht hf hg hh hv hk
  go_enter Tryd.func40, Tryd.ntmps40
  go_wp2_with (fail)
  refine wp_quiet_tail 11 (by kernel_rfl) (by kernel_rfl) (by kernel_rfl) (by kernel_rfl) (by kernel_rfl) (by kernel_rfl) (by kernel_rfl) (by kernel_rfl) ?_
  simp only [List.take_succ_cons, List.take_zero, List.drop_succ_cons, List.drop_zero]
  repeat (go_big_quiet_step (fail))
  refine wpQuiet_lookI rfl 14 rfl (.tmp 12) (.tmp 13) 42 63 rfl Tryd.underlying42 zeroArr rfl (mapI_drewN HG.out) (wfI HK.out) rfl v HV.out ?_
  simp only [List.set_cons_zero, List.set_cons_succ]
  refine wpQuiet_nil ?_
  intro wq hwq
  obtain ⟨nq, rfl⟩ := hwq
  have HTQ : Hid (Tri (w.drewN nq) X a b c) := Lib.hid ⟨HT.out.c0, HT.out.c1, HT.out.c2, HT.out.ne, HT.out.lt⟩
  clear x0 x1
  go_wp2_with (first
    | (with_reducible refine here_upd ?_
       refine wpList_updateI rfl _ _ _ 42 63 rfl Tryd.underlying42 rfl (HF.out.drewN nq) HK.out rfl v rfl ?_
       intro w1 m1 c1
       have M1 := Lib.hid m1
       have C1 := Lib.hid c1
       have x2 : w1.cell? ⟨X, 2, none⟩ = some (.map (some c)) := (HTQ.out.chg c1 HT.out.ne.1).c2
       clear m1 c1
       go_frame)
    | (at_delete
       refine wpList_deleteI rfl _ _ 43 80 rfl Tryd.underlying43 rfl ((HH.out.drewN nq).chg C1.out (fun e => HT.out.ne.2.2.2.2.1 e.symm)) (wfI HK.out) rfl ?_
       intro w2 m2 c2
       have M2 := Lib.hid m2
       have C2 := Lib.hid c2
       clear m2 c2
       go_frame))
  go_end0
  refine ⟨rfl, M1.out.chg C2.out HT.out.ne.2.2.2.2.1, M2.out, ?_⟩
  exact chg_join (Chg.drewN _ (Chg.refl _ _) nq) (chg_join (C1.out.mono fun j hj => .inl hj) (C2.out.mono fun j hj => .inr hj))
end Go.Proofs.YtbodiioemohenaaDoor

/- A sector's fate: which, and what it makes of the maps. Conditions: none of their own. -/
namespace Go.Proofs.YtbodiioemohenaaDoor
open Go.RowKit

set_option maxRecDepth 100000 in
set_option maxHeartbeats 2000000 in
theorem fate_any {w : World} {u : Value} {fs : List UInt8} (hr : Rd w u fs) (j : Nat) :
    Calls Tryd.prog 30 #[u, .int .i64 (j : Int)] w fun e w' => e = .returned (.int .i64 (fate fs j : Int)) ∧ w' = w := by
  obtain ⟨φ, hφ⟩ : ∃ φ, φ = fate fs j := ⟨_, rfl⟩
  rw [← hφ]
  obtain ⟨A, c, rfl, h1, h2, h3⟩ := hr.form
  by_cases h0 : fs = []
  · have l0 : fs.length = 0 := by rw [h0]; rfl
    have HZ0 : Hid (φ = 0) := Lib.hid (by
      rw [hφ]
      unfold fate
      rw [if_pos h0])
    clear h0 hφ hr h1 h2 h3
    go_enter Tryd.func30, Tryd.ntmps30
    go_wp2_with (fail)
    go_ret
    rw [HZ0.out]
    exact ⟨rfl, rfl⟩
  · have l0 : 0 < fs.length := List.length_pos_iff.2 h0
    have hjl : j % fs.length < fs.length := Nat.mod_lt _ l0
    have hfm : ∃ b off, A = some ⟨b, off, none⟩ ∧ w.cell? ⟨b, off + j % fs.length, none⟩ = some (.int .u8 ((fs[j % fs.length]'hjl).toNat : Int)) := by
      rcases hr with ⟨_, _, _, _, _, h4⟩ | ⟨b, off, _, e1, h2, _, _, h5⟩
      · exact absurd h4 h0
      · injection e1 with e1 _ _
        exact ⟨b, off, e1, h5 _ hjl⟩
    obtain ⟨b, off, rfl, cb1⟩ := hfm
    obtain ⟨x, hx⟩ : ∃ x, x = fs[j % fs.length]'hjl := ⟨_, rfl⟩
    rw [← hx] at cb1
    have e3 : Int.tmod (x.toNat : Int) 3 = (φ : Int) := by
      rw [hφ]
      unfold fate
      rw [if_neg h0, hx, List.getD, List.getElem?_eq_getElem hjl]
      rfl
    have hx2 : x.toNat < 256 := x.toNat_lt
    obtain ⟨y, hy⟩ : ∃ y : Nat, y = x.toNat := ⟨_, rfl⟩
    rw [← hy] at e3 cb1 hx2
    obtain ⟨jm, hjm⟩ : ∃ jm, jm = j % fs.length := ⟨_, rfl⟩
    have e1 : Int.tmod (j : Int) (fs.length : Int) = (jm : Int) := by rw [hjm]; rfl
    have jmI : (jm : Int) < fs.length := by rw [hjm]; omega
    rw [← hjm] at cb1
    clear hx hjm h0 hjl hφ hr hy
    go_enter Tryd.func30, Tryd.ntmps30
    go_wp2_with (fail)
    go_ret
    exact ⟨rfl, rfl⟩
section
variable {w : World} {X a b c : Nat} {f g h : Int → Option Value}
set_option maxRecDepth 100000 in
set_option maxHeartbeats 2000000 in
theorem meet_back (k : Int) (w : World) :
    Calls Tryd.prog 29 #[.pointer (some ⟨X, 0, none⟩), .int .i64 k, .int .i64 0] w fun e w' => e = .returned (.tuple #[]) ∧ w' = w := by
  go_enter Tryd.func29, Tryd.ntmps29
  go_wp2_with (fail)
  go_end0
  exact ⟨rfl, rfl⟩
set_option maxRecDepth 100000 in
set_option maxHeartbeats 2000000 in
theorem meet_stay (ht : Tri w X a b c) (hf : MapI w a f) (hg : MapI w b g) (hh : MapI w c h) (k : Int) (hk : 0 ≤ k ∧ k < 1024) (v : Value) (hv : (g k).getD (arrV z128) = v) :
    Calls Tryd.prog 29 #[.pointer (some ⟨X, 0, none⟩), .int .i64 k, .int .i64 1] w fun e w' => e = .returned (.tuple #[]) ∧ MapI w' a (updF f k (some v)) ∧ MapI w' c (updF h k none) ∧ Chg (fun j => j = a ∨ j = c) w w' := by
  have HC := Lib.hid (keep_any ht hf hg hh k hk v hv)
  clear ht hf hg hh hk hv
  go_enter Tryd.func29, Tryd.ntmps29
  go_wp2_with (fail)
  refine HC.out.mono ?_
  rintro e w1 ⟨rfl, m1, n1, c1⟩
  go_wp2_with (fail)
  go_end0
  exact ⟨rfl, m1, n1, c1⟩
set_option maxRecDepth 100000 in
set_option maxHeartbeats 2000000 in
theorem meet_tear (ht : Tri w X a b c) (hf : MapI w a f) (hh : MapI w c h) (k : Int) (hk : 0 ≤ k ∧ k < 1024) :
    Calls Tryd.prog 29 #[.pointer (some ⟨X, 0, none⟩), .int .i64 k, .int .i64 2] w fun e w' => e = .returned (.tuple #[]) ∧ MapI w' a (updF f k none) ∧ MapI w' c (updF h k (some unitV)) ∧ Chg (fun j => j = a ∨ j = c) w w' := by
  have HT := Lib.hid ht
  have HF := Lib.hid hf
  have HH := Lib.hid hh
  have HK := Lib.hid hk
  have x0 := ht.c0
  clear ht hf hh hk
  go_enter Tryd.func29, Tryd.ntmps29
  go_wp2_with (first
    | (at_delete
       refine wpList_deleteI rfl _ _ 42 63 rfl Tryd.underlying42 rfl HF.out (wfI HK.out) rfl ?_
       intro w1 m1 c1
       have M1 := Lib.hid m1
       have C1 := Lib.hid c1
       have x2 := (HT.out.chg c1 HT.out.ne.1).c2
       clear m1 c1
       go_frame)
    | (with_reducible refine here_upd ?_
       refine wpList_updateI rfl _ _ _ 43 80 rfl Tryd.underlying43 rfl (HH.out.chg C1.out (fun e => HT.out.ne.2.2.2.2.1 e.symm)) HK.out rfl unitV rfl ?_
       intro w2 m2 c2
       have M2 := Lib.hid m2
       have C2 := Lib.hid c2
       clear m2 c2
       go_frame))
  go_end0
  exact ⟨rfl, M1.out.chg C2.out HT.out.ne.2.2.2.2.1, M2.out, chg_join (C1.out.mono fun j hj => .inl hj) (C2.out.mono fun j hj => .inr hj)⟩
/-- What a fate makes of the safe sectors, and of the torn ones. -/
def metA (f : Int → Option Value) (k : Int) (v : Value) (φ : Nat) : Int → Option Value := if φ = 1 then updF f k (some v) else if φ = 2 then updF f k none else f
def metC (h : Int → Option Value) (k : Int) (φ : Nat) : Int → Option Value := if φ = 1 then updF h k none else if φ = 2 then updF h k (some unitV) else h
theorem meet_any (ht : Tri w X a b c) (hf : MapI w a f) (hg : MapI w b g) (hh : MapI w c h) (k : Int) (hk : 0 ≤ k ∧ k < 1024) (v : Value) (hv : (g k).getD (arrV z128) = v) (φ : Nat) (hφ : φ < 3) :
    Calls Tryd.prog 29 #[.pointer (some ⟨X, 0, none⟩), .int .i64 k, .int .i64 (φ : Int)] w fun e w' => e = .returned (.tuple #[]) ∧ MapI w' a (metA f k v φ) ∧ MapI w' c (metC h k φ) ∧ Chg (fun j => j = a ∨ j = c) w w' := by
  obtain rfl | rfl | rfl : φ = 0 ∨ φ = 1 ∨ φ = 2 := by omega
  · refine (meet_back k w).mono ?_
    rintro e w' ⟨rfl, rfl⟩
    exact ⟨rfl, hf, hh, Chg.refl _ _⟩
  · exact meet_stay ht hf hg hh k hk v hv
  · exact meet_tear ht hf hh k hk
end
end Go.Proofs.YtbodiioemohenaaDoor
