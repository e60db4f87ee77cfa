/- The contracts of the developers' lease: New, Left, Wants, Grant, Take, Nonce, of a lease and of none. No condition of its own. -/
import Derived.Test.YtmdpoceadjdhmaaLsCon
import Derived.Test.YtmdpoceadjdhmaaNonA
import Derived.Test.YtmdpoceadjdhmaaToPtr
import Derived.BigQuiet
namespace Go.Proofs.Ytmdpoceadjdhmaa
open Go.RowKit

def leV (s : LS) : List Value := [.int .u16 (s.node : Int), .int .u64 (s.next : Int), .int .u64 (s.bound : Int)]
theorem le_lone {w w' : World} {X : Nat} (h : Sole w w' X) : Chg (fun k => k = X) w w' := ⟨h.below.os, h.below.tape, h.below.output, Nat.le_of_eq h.size.symm, fun k _ hk => h.other k hk⟩
/-- What a lease is: a block of its own. -/
def LeAt (w : World) (p : Value) (s : LS) (F : Nat → Prop) : Prop := ∃ X, p = .pointer (some ⟨X, 0, none⟩) ∧ Blk w X 53 (leV s) ∧ LOk s ∧ ∀ j, F j ↔ j = X
theorem LeAt.left {w w' : World} {X : Nat} {s : LS} {F : Nat → Prop} (hF : ∀ j, F j ↔ j = X) (h : Blk w' X 53 (leV s)) (hs : LOk s) (hc : Chg (fun j => j = X) w w') : LLeft LeAt w w' (.pointer (some ⟨X, 0, none⟩)) s F :=
  ⟨⟨F, ⟨X, rfl, h, hs, hF⟩, fun _ hj => .inl hj⟩, hc.mono fun j hj => (hF j).2 hj⟩
set_option maxRecDepth 100000 in
set_option maxHeartbeats 1000000 in
theorem leNew_any (node b : Nat) (w : World) :
    Calls Try.prog 6 #[.int .u16 (node : Int), .int .u64 (b : Int)] w fun e w' => e = .returned (.pointer (some ⟨w.heap.size, 0, none⟩)) ∧ Blk w' w.heap.size 53 (leV (newL node b)) ∧ Below w.heap.size w w' := by
  obtain ⟨m, hm⟩ : ∃ m, m = min b 4611686018427387904 := ⟨_, rfl⟩
  have HB : Hid (leV (newL node b) = [.int .u16 (node : Int), .int .u64 (m : Int), .int .u64 (m : Int)]) := Lib.hid (by rw [hm]; rfl)
  rw [HB.out]
  have HM : Hid (m = min b 4611686018427387904) := Lib.hid hm
  clear hm
  go_enter Try.func6, Try.ntmps6
  go_wp2_with (fail)
  · have HE : Hid ((4611686018427387904 : Int) = (m : Int)) := Lib.hid (by have := HM.out; omega)
    go_ret
    rw [← HE.out]
    exact ⟨rfl, Blk.made w _ _, (Below.refl _ _).alloc (Nat.le_refl _) _⟩
  · have HE : Hid (b = m) := Lib.hid (by have := HM.out; omega)
    go_ret
    rw [← HE.out]
    exact ⟨rfl, Blk.made w _ _, (Below.refl _ _).alloc (Nat.le_refl _) _⟩
set_option maxRecDepth 100000 in
set_option maxHeartbeats 1000000 in
theorem leLeft_any {w : World} {q : Nat} {s : LS} (hs : LOk s) (h : Blk w q 53 (leV s)) :
    Calls Try.prog 16 #[.pointer (some ⟨q, 0, none⟩)] w fun e w' => e = .returned (.int .u64 ((s.bound - s.next : Nat) : Int)) ∧ ∃ m, w' = w.drewN m := by
  obtain ⟨h1, h2, h3⟩ := hs
  obtain ⟨b, hb⟩ : ∃ b, b = s.bound := ⟨_, rfl⟩
  obtain ⟨x, hx⟩ : ∃ x, x = s.next := ⟨_, rfl⟩
  have c1 : w.cell? ⟨q, 1, none⟩ = some (.int .u64 (x : Int)) := by rw [h.cell, hx]; rfl
  have c2 : w.cell? ⟨q, 2, none⟩ = some (.int .u64 (b : Int)) := by rw [h.cell, hb]; rfl
  obtain ⟨y, hy⟩ : ∃ y, y = b - x := ⟨_, rfl⟩
  have e1 : IntKind.u64.wrap ((b : Int) - (x : Int)) = (y : Int) := by rw [IntWalk.u64_in _ (by omega), hy]; omega
  rw [← hb, ← hx, ← hy]
  clear h h1 h2 h3 hb hx hy
  go_enter Try.func16, Try.ntmps16
  go_wp2_with (fail)
  go_quiet (fail)
  clear c1 c2
  go_wp2_with (fail)
  go_ret
  exact ⟨rfl, nq, rfl⟩
set_option maxRecDepth 100000 in
set_option maxHeartbeats 1000000 in
theorem leWants_any {w : World} {q : Nat} {s : LS} (hs : LOk s) (h : Blk w q 53 (leV s)) (n : Nat) :
    Calls Try.prog 14 #[.pointer (some ⟨q, 0, none⟩), .int .u64 (n : Int)] w fun e w' => e = .returned (.tuple #[.int .u64 ((wantsL s n).1 : Int), .int .i64 ((wantsL s n).2 : Int)]) ∧ w' = w := by
  have c2 : w.cell? ⟨q, 2, none⟩ = some (.int .u64 (s.bound : Int)) := by rw [h.cell]; rfl
  obtain ⟨h1, h2, h3⟩ := hs
  obtain ⟨b, hb⟩ : ∃ b, b = s.bound := ⟨_, rfl⟩
  rw [← hb] at c2 h3
  obtain ⟨d, hd⟩ : ∃ d, d = 4611686018427387904 - b := ⟨_, rfl⟩
  have e0 : IntKind.u64.wrap ((4611686018427387904 : Int) - (b : Int)) = (d : Int) := by rw [IntWalk.u64_in _ (by omega), hd]; omega
  by_cases hlt : 4611686018427387904 < s.bound + n
  · have e1 : wantsL s n = (0, 12) := by
      unfold wantsL
      rw [if_pos hlt]
    rw [e1]
    have g1 : decide (d < n) = true := decide_eq_true (by omega)
    clear e1 hlt h h1 h2 h3 hb hd
    go_enter Try.func14, Try.ntmps14
    go_wp2_with (fail)
    go_ret2
    exact ⟨rfl, rfl⟩
  · have g1 : decide (d < n) = false := decide_eq_false (by omega)
    obtain ⟨t, ht⟩ : ∃ t, t = b + n := ⟨_, rfl⟩
    have e2 : IntKind.u64.wrap ((b : Int) + (n : Int)) = (t : Int) := by rw [IntWalk.u64_in _ (by omega), ht]; omega
    have e1 : wantsL s n = (t, 0) := by
      unfold wantsL
      rw [if_neg hlt, ht, hb]
    rw [e1]
    clear e1 hlt h h1 h2 h3 hb ht hd
    go_enter Try.func14, Try.ntmps14
    go_wp2_with (fail)
    go_ret2
    exact ⟨rfl, rfl⟩
set_option maxRecDepth 100000 in
set_option maxHeartbeats 1000000 in
theorem leGrant_any {w : World} {q : Nat} {s : LS} (h : Blk w q 53 (leV s)) (n : Nat) :
    Calls Try.prog 12 #[.pointer (some ⟨q, 0, none⟩), .int .u64 (n : Int)] w fun e w' => e = .returned (.int .i64 ((grantL s n).2 : Int)) ∧ Blk w' q 53 (leV (grantL s n).1) ∧ Sole w w' q := by
  have HH := Lib.hid h
  have c2 : w.cell? ⟨q, 2, none⟩ = some (.int .u64 (s.bound : Int)) := by rw [h.cell]; rfl
  have f2 : w.frozen? ⟨q, 2, none⟩ = false := h.free 2
  obtain ⟨b, hb⟩ : ∃ b, b = s.bound := ⟨_, rfl⟩
  rw [← hb] at c2
  by_cases h1 : n < s.bound
  · have e1 : grantL s n = (s, 13) := by
      unfold grantL
      rw [if_pos h1]
    have g1 : decide (n < b) = true := decide_eq_true (by omega)
    rw [e1]
    clear e1 h1 hb h
    go_enter Try.func12, Try.ntmps12
    go_wp2_with (fail)
    go_ret
    exact ⟨rfl, HH.out, Sole.refl _ _⟩
  · have g1 : decide (n < b) = false := decide_eq_false (by omega)
    by_cases h2 : 4611686018427387904 < n
    · have e1 : grantL s n = (s, 12) := by
        unfold grantL
        rw [if_neg h1, if_pos h2]
      have g2 : decide ((4611686018427387904 : Int) < (n : Int)) = true := decide_eq_true (by omega)
      rw [e1]
      clear e1 h1 h2 hb h
      go_enter Try.func12, Try.ntmps12
      go_wp2_with (fail)
      go_ret
      exact ⟨rfl, HH.out, Sole.refl _ _⟩
    · have e1 : grantL s n = (⟨s.node, s.next, n⟩, 0) := by
        unfold grantL
        rw [if_neg h1, if_neg h2]
      have g2 : decide ((4611686018427387904 : Int) < (n : Int)) = false := decide_eq_false (by omega)
      rw [e1]
      clear e1 h1 h2 hb h
      go_enter Try.func12, Try.ntmps12
      go_wp2_with (fail)
      go_ret
      exact ⟨rfl, HH.out.set 2 _, Sole.setCell _ _ _ _⟩
set_option maxRecDepth 100000 in
set_option maxHeartbeats 2000000 in
theorem leTake_any {w : World} {q : Nat} {s : LS} (hs : LOk s) (h : Blk w q 53 (leV s)) :
    Calls Try.prog 8 #[.pointer (some ⟨q, 0, none⟩)] w fun e w' => e = .returned (.tuple #[.int .u64 ((takeL s).2.1 : Int), .int .i64 ((takeL s).2.2 : Int)]) ∧ Blk w' q 53 (leV (takeL s).1) ∧ Chg (fun j => j = q) w w' := by
  have HH := Lib.hid h
  obtain ⟨h1, h2, h3⟩ := hs
  obtain ⟨b, hb⟩ : ∃ b, b = s.bound := ⟨_, rfl⟩
  obtain ⟨x, hx⟩ : ∃ x, x = s.next := ⟨_, rfl⟩
  have c1 : ∀ m, (w.drewN m).cell? ⟨q, 1, none⟩ = some (.int .u64 (x : Int)) := fun m => by rw [(h.drewN m).cell, hx]; rfl
  have c2 : ∀ m, (w.drewN m).cell? ⟨q, 2, none⟩ = some (.int .u64 (b : Int)) := fun m => by rw [(h.drewN m).cell, hb]; rfl
  have f1 : ∀ m, (w.drewN m).frozen? ⟨q, 1, none⟩ = false := fun m => (h.drewN m).free 1
  by_cases hlt : s.next < s.bound
  · rw [takeL_yes hlt]
    have g1 : decide (x < b) = true := decide_eq_true (by omega)
    obtain ⟨y, hy⟩ : ∃ y, y = x + 1 := ⟨_, rfl⟩
    have e1 : IntKind.u64.wrap ((x : Int) + 1) = (y : Int) := by rw [IntWalk.u64_in _ (by omega), hy]; omega
    have HX : Hid (s.next = x ∧ s.next + 1 = y) := Lib.hid ⟨hx.symm, by rw [hy, hx]⟩
    clear h h1 h2 h3 hlt hb hx hy
    go_enter Try.func8, Try.ntmps8
    go_wp2_with (fail)
    go_quiet (fail)
    have d1 := c1 nq
    have d2 := f1 nq
    clear c1 c2 f1
    go_wp2_with (fail)
    go_ret2
    rw [HX.out.1]
    refine ⟨rfl, ?_, ?_⟩
    · have h5 := (HH.out.drewN nq).set 1 (.int .u64 (y : Int))
      rw [← HX.out.1, HX.out.2]
      exact h5
    · exact chg_join (Chg.drewN _ (Chg.refl _ w) nq) (le_lone (Sole.setCell (w.drewN nq) q 1 (.int .u64 (y : Int))))
  · have g1 : decide (x < b) = false := decide_eq_false (by omega)
    by_cases hbt : s.bound = 4611686018427387904
    · have hC : Hid (s.next < 4611686018427387904 ∨ s.next = 4611686018427387904) := Lib.hid (by omega)
      rw [takeL_spent hlt hbt]
      have g2 : decide ((x : Int) < 4611686018427387904) = false := decide_eq_false (by omega)
      clear h h1 h2 h3 hlt hb hx hbt f1 hC
      go_enter Try.func8, Try.ntmps8
      go_wp2_with (fail)
      go_quiet (fail)
      have d1 := c1 nq
      clear c1 c2
      go_wp2_with (fail)
      go_ret2
      exact ⟨rfl, HH.out.drewN nq, Chg.drewN _ (Chg.refl _ _) nq⟩
    · rw [takeL_wait hlt hbt]
      have g2 : decide ((x : Int) < 4611686018427387904) = true := decide_eq_true (by omega)
      clear h h1 h2 h3 hlt hb hx hbt f1
      go_enter Try.func8, Try.ntmps8
      go_wp2_with (fail)
      go_quiet (fail)
      have d1 := c1 nq
      clear c1 c2
      go_wp2_with (fail)
      go_ret2
      exact ⟨rfl, HH.out.drewN nq, Chg.drewN _ (Chg.refl _ _) nq⟩
set_option maxRecDepth 100000 in
set_option maxHeartbeats 2000000 in
theorem leNonce_any {w : World} {q : Nat} {s : LS} (hs : LOk s) (h : Blk w q 53 (leV s)) :
    Calls Try.prog 10 #[.pointer (some ⟨q, 0, none⟩)] w fun e w' => e = .returned (.tuple #[arrV (nonceL s), .int .i64 ((takeL s).2.2 : Int)]) ∧ Blk w' q 53 (leV (takeL s).1) ∧ Chg (fun j => j = q) w w' := by
  have HI : Hid ((Try.prog.info? 35).map (·.size) = some 12) := by show _ = _; kernel_rfl
  obtain ⟨W0, hW0⟩ : ∃ W : World, W = w.alloc (.cells #[Value.int .u8 0, Value.int .u8 0, Value.int .u8 0, Value.int .u8 0, Value.int .u8 0, Value.int .u8 0, Value.int .u8 0, Value.int .u8 0, Value.int .u8 0, Value.int .u8 0, Value.int .u8 0, Value.int .u8 0] 35) := ⟨_, rfl⟩
  have D0 : Hid (Below w.heap.size w W0) := Lib.hid (by rw [hW0]; exact (Below.refl _ _).alloc (Nat.le_refl _) _)
  have R0 : Hid (Blk W0 w.heap.size 35 (List.replicate 12 (Value.int .u8 0))) := Lib.hid (by rw [hW0]; exact Blk.made w _ _)
  have q0 : Blk W0 q 53 (leV s) := h.below D0.out h.lt
  have HLT : Hid (q < w.heap.size) := Lib.hid h.lt
  have HTK := Lib.hid (leTake_any hs q0)
  have HCS := Lib.hid (takeL_cases s)
  have HND : Hid (s.node < 65536 ∧ s.next ≤ 4611686018427387904 ∧ (s.next < s.bound → s.next < 4611686018427387904)) := Lib.hid ⟨hs.1, by have := hs.2; omega, by have := hs.2; omega⟩
  obtain ⟨node, hnode⟩ : ∃ node, node = s.node := ⟨_, rfl⟩
  have HN0 := Lib.hid hnode
  obtain ⟨s', hs'⟩ : ∃ s', s' = (takeL s).1 := ⟨_, rfl⟩
  obtain ⟨v, hv⟩ : ∃ v, v = (takeL s).2.1 := ⟨_, rfl⟩
  obtain ⟨c, hc⟩ : ∃ c, c = (takeL s).2.2 := ⟨_, rfl⟩
  obtain ⟨bs, hbs⟩ : ∃ bs, bs = nonceL s := ⟨_, rfl⟩
  have HBS : Hid (bs = if c = 0 then nonceB s.node v else List.replicate 12 0) := Lib.hid (by rw [hbs, hc, hv]; rfl)
  have HBL : Hid (bs.length = 12) := Lib.hid (by rw [hbs]; exact nonceL_length s)
  rw [← hs', ← hv, ← hc] at HTK HCS
  rw [← hs', ← hc, ← hbs]
  clear hs h q0 hnode hs' hv hc hbs
  go_enter Try.func10, Try.ntmps10
  go_upto_region 1 with (fail)
  rw [← hW0]
  clear hW0
  go_wp2_with (fail)
  refine HTK.out.mono ?_
  rintro e w1 ⟨rfl, hb1, hc1⟩
  have K1 := Lib.hid hb1
  have R1 : Hid (Blk w1 w.heap.size 35 (List.replicate 12 (Value.int .u8 0))) := Lib.hid (hc1.blk R0.out (by have := HLT.out; omega))
  have HCH : Hid (Chg (fun j => j = q) w w1) := Lib.hid (chg_join (chg_below D0.out) hc1)
  clear hb1 hc1
  rcases HCS.out with ⟨rfl, h1, h2, h3⟩ | ⟨h1, h2, h3, h4⟩
  · have HVL : Hid (node < 65536 ∧ v < 4611686018427387904) := Lib.hid (by have := HND.out; have := HN0.out; omega)
    have c0 : w1.cell? ⟨q, 0, none⟩ = some (.int .u16 (node : Int)) := by rw [K1.out.cell, h2, HN0.out]; rfl
    clear h1 h2 h3
    go_wp2_with (fail)
    refine (noncec node v w1 HVL.out.1 (by have := HVL.out.2; omega)).mono ?_
    rw [if_neg (by have := HVL.out.2; omega), if_neg (by have := HVL.out.2; omega)]
    rintro e w2 ⟨rfl, b2⟩
    have R2 := Lib.hid (R1.out.below b2 R1.out.lt)
    have K2 := Lib.hid (K1.out.below b2 K1.out.lt)
    have C2 : Hid (Chg (fun j => j = q) w w2) := Lib.hid (chg_join HCH.out (chg_below b2))
    obtain ⟨nb, hnb⟩ : ∃ nb, nb = nonceB node v := ⟨_, rfl⟩
    have HNB : Hid (bs = nb) := Lib.hid (by rw [HBS.out, hnb, HN0.out]; simp)
    have HNL : Hid ((nb.map bv).length = 12) := Lib.hid (by rw [List.length_map, ← HNB.out]; exact HBL.out)
    rw [← hnb]
    clear b2 c0 hnb
    go_wp2_with (refine wpList_store_blk rfl 35 _ _ rfl w.heap.size 35 _ R2.out (nb.map bv) rfl rfl (by rw [HNL.out]; rfl) (by rw [HNL.out]; exact HI.out) (bv_one _) ?_; intro w9 hb9 hs9)
    refine bodyPost_ret (v := .tuple #[arrV nb, .int .i64 0]) ?_ rfl ⟨by rw [HNB.out]; rfl, ?_, ?_⟩
    · exact results_blk_tmp (ty := 35) Try.results10 _ w9 w.heap.size 35 (nb.map bv) _ _ rfl rfl hb9 Try.underlying35 rfl (by rw [HNL.out]; exact HI.out)
    · exact hs9.blk K2.out (by have := HLT.out; omega)
    · exact C2.out.trans ((le_lone hs9).mono fun j hj => .inr (by rw [hj]; exact Nat.le_refl _))
  · have hcd : c ≠ 0 := by omega
    have HZB : Hid (bs.map bv = List.replicate 12 (Value.int .u8 0)) := Lib.hid (by rw [HBS.out, if_neg hcd, List.map_replicate]; rfl)
    have gc : ((c : Int) == 0) = false := by rw [beq_eq_false_iff_ne]; omega
    clear h1 h2 h3 h4 hcd
    go_wp2_with (refine wpList_store_blk rfl 35 _ _ rfl w.heap.size 35 _ R1.out (List.replicate 12 (Value.int .u8 0)) rfl rfl rfl HI.out (by intro u hu; rw [List.eq_of_mem_replicate hu]; rfl) ?_; intro w9 hb9 hs9)
    refine bodyPost_ret (v := .tuple #[arrV bs, .int .i64 (c : Int)]) ?_ rfl ⟨rfl, ?_, ?_⟩
    · have h9 := hb9
      rw [← HZB.out] at h9
      exact results_blk_tmp (ty := 35) Try.results10 _ w9 w.heap.size 35 (bs.map bv) _ _ rfl rfl h9 Try.underlying35 rfl (by rw [List.length_map, HBL.out]; exact HI.out)
    · exact hs9.blk K1.out (by have := HLT.out; omega)
    · exact HCH.out.trans ((le_lone hs9).mono fun j hj => .inr (by rw [hj]; exact Nat.le_refl _))
noncomputable def leasec : LeaseC where
  At := LeAt
  other := by
    rintro w w' p s F G ⟨X, rfl, hb, hs, hF⟩ hc hd
    exact ⟨X, rfl, hc.blk hb (hd X ((hF X).2 rfl)), hs, hF⟩
  lt := by
    rintro w p s F ⟨X, rfl, hb, hs, hF⟩ j hj
    rw [(hF j).1 hj]
    exact hb.lt
  good := fun ⟨_, _, _, hs, _⟩ => hs
  new := fun node b w hn _ => (leNew_any node b w).mono fun _ _ ⟨h1, h2, h3⟩ => ⟨_, h1, ⟨fun j => j = w.heap.size, ⟨_, rfl, h2, newL_ok hn, fun _ => Iff.rfl⟩, fun j hj => by rw [hj]; exact Nat.le_refl _⟩, h3⟩
  left := by
    rintro w p s F ⟨X, rfl, hb, hs, hF⟩
    exact leLeft_any hs hb
  wants := by
    rintro w p s F ⟨X, rfl, hb, hs, hF⟩ n _
    exact (leWants_any hs hb n).mono fun _ _ ⟨h1, h2⟩ => ⟨h1, by rw [h2]; exact Below.refl _ _⟩
  grant := by
    rintro w p s F ⟨X, rfl, hb, hs, hF⟩ b _
    exact (leGrant_any hb b).mono fun _ _ ⟨h1, h2, h3⟩ => ⟨h1, LeAt.left hF h2 (grantL_ok hs b) (le_lone h3)⟩
  take := by
    rintro w p s F ⟨X, rfl, hb, hs, hF⟩
    exact (leTake_any hs hb).mono fun _ _ ⟨h1, h2, h3⟩ => ⟨h1, LeAt.left hF h2 (takeL_ok hs) h3⟩
  nonce := by
    rintro w p s F ⟨X, rfl, hb, hs, hF⟩
    exact (leNonce_any hs hb).mono fun _ _ ⟨h1, h2, h3⟩ => ⟨h1, LeAt.left hF h2 (takeL_ok hs) h3⟩
set_option maxRecDepth 100000 in
set_option maxHeartbeats 1000000 in
theorem nilLeft (w : World) : Calls Try.prog 16 #[.pointer none] w fun e w' => e = .returned (.int .u64 0) ∧ w' = w := by
  go_enter Try.func16, Try.ntmps16
  go_wp2_with (fail)
  go_ret
  exact ⟨rfl, rfl⟩
set_option maxRecDepth 100000 in
set_option maxHeartbeats 1000000 in
theorem nilWants (n : Nat) (w : World) : Calls Try.prog 14 #[.pointer none, .int .u64 (n : Int)] w fun e w' => e = .returned (.tuple #[.int .u64 0, .int .i64 14]) ∧ w' = w := by
  go_enter Try.func14, Try.ntmps14
  go_wp2_with (fail)
  go_ret2
  exact ⟨rfl, rfl⟩
set_option maxRecDepth 100000 in
set_option maxHeartbeats 1000000 in
theorem nilGrant (n : Nat) (w : World) : Calls Try.prog 12 #[.pointer none, .int .u64 (n : Int)] w fun e w' => e = .returned (.int .i64 1) ∧ w' = w := by
  go_enter Try.func12, Try.ntmps12
  go_wp2_with (fail)
  go_ret
  exact ⟨rfl, rfl⟩
set_option maxRecDepth 100000 in
set_option maxHeartbeats 1000000 in
theorem nilTake (w : World) : Calls Try.prog 8 #[.pointer none] w fun e w' => e = .returned (.tuple #[.int .u64 0, .int .i64 14]) ∧ w' = w := by
  go_enter Try.func8, Try.ntmps8
  go_wp2_with (fail)
  go_ret2
  exact ⟨rfl, rfl⟩
set_option maxRecDepth 100000 in
set_option maxHeartbeats 1000000 in
theorem nilNonce (w : World) : Calls Try.prog 10 #[.pointer none] w fun e w' => e = .returned (.tuple #[arrV (List.replicate 12 0), .int .i64 14]) ∧ Below w.heap.size w w' := by
  have HI : Hid ((Try.prog.info? 35).map (·.size) = some 12) := by show _ = _; kernel_rfl
  obtain ⟨W0, hW0⟩ : ∃ W : World, W = w.alloc (.cells #[Value.int .u8 0, Value.int .u8 0, Value.int .u8 0, Value.int .u8 0, Value.int .u8 0, Value.int .u8 0, Value.int .u8 0, Value.int .u8 0, Value.int .u8 0, Value.int .u8 0, Value.int .u8 0, Value.int .u8 0] 35) := ⟨_, rfl⟩
  have D0 : Hid (Below w.heap.size w W0) := Lib.hid (by rw [hW0]; exact (Below.refl _ _).alloc (Nat.le_refl _) _)
  have R0 : Hid (Blk W0 w.heap.size 35 (List.replicate 12 (Value.int .u8 0))) := Lib.hid (by rw [hW0]; exact Blk.made w _ _)
  have HTK := Lib.hid (nilTake W0)
  go_enter Try.func10, Try.ntmps10
  go_upto_region 1 with (fail)
  rw [← hW0]
  clear hW0
  go_wp2_with (fail)
  refine HTK.out.mono ?_
  rintro e w1 ⟨rfl, hw1⟩
  replace hw1 := hw1.symm
  subst hw1
  go_wp2_with (refine wpList_store_blk rfl 35 _ _ rfl w.heap.size 35 _ R0.out (List.replicate 12 (Value.int .u8 0)) rfl rfl rfl HI.out (by intro u hu; rw [List.eq_of_mem_replicate hu]; rfl) ?_; intro w9 hb9 hs9)
  refine bodyPost_ret (v := .tuple #[arrV (List.replicate 12 0), .int .i64 14]) ?_ rfl ⟨rfl, D0.out.trans (hs9.below.mono (Nat.le_refl _))⟩
  exact results_blk_tmp (ty := 35) Try.results10 _ w9 w.heap.size 35 (List.replicate 12 (Value.int .u8 0)) _ _ rfl rfl hb9 Try.underlying35 rfl HI.out
theorem leasen : LeaseN where
  left := fun w => (nilLeft w).mono fun _ _ ⟨h1, h2⟩ => ⟨h1, by rw [h2]; exact Below.refl _ _⟩
  wants := fun n w _ => (nilWants n w).mono fun _ _ ⟨h1, h2⟩ => ⟨0, h1, by rw [h2]; exact Below.refl _ _⟩
  grant := fun b w _ => (nilGrant b w).mono fun _ _ ⟨h1, h2⟩ => ⟨h1, by rw [h2]; exact Below.refl _ _⟩
  take := fun w => (nilTake w).mono fun _ _ ⟨h1, h2⟩ => ⟨0, h1, by rw [h2]; exact Below.refl _ _⟩
  nonce := fun w => (nilNonce w).mono fun _ _ ⟨h1, h2⟩ => ⟨List.replicate 12 0, List.length_replicate, h1, h2⟩
end Go.Proofs.Ytmdpoceadjdhmaa
