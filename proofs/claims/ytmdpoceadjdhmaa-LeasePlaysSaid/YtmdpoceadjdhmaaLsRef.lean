/- The twelfth reference's calls. Condition: a lease as a lease is. -/
import Derived.Test.YtmdpoceadjdhmaaLsSpec
import Derived.Test.YtmdpoceadjdhmaaRNonce
import Derived.Test.YtmdpoceadjdhmaaToPtr
import Derived.Test.YtmdpoceadjdhmaaDConG
import Derived.BigQuiet
namespace Go.Proofs.Ytmdpoceadjdhmaa
open Go.RowKit

theorem sole_lone {w w' : World} {X : Nat} (h : Sole w w' X) : Chg (fun k => k = X) w w' := ⟨h.below.os, h.below.tape, h.below.output, Nat.le_of_eq h.size.symm, fun k _ hk => h.other k hk⟩
def refLV (s : LS) : List Value := [.int .u16 (s.node : Int), .int .u64 (s.next : Int), .int .u64 (s.bound : Int)]
set_option maxRecDepth 100000 in
set_option maxHeartbeats 1000000 in
theorem refLNew_any (node b : Nat) (w : World) :
    Calls Try.prog 7 #[.int .u16 (node : Int), .int .u64 (b : Int)] w fun e w' => e = .returned (.pointer (some ⟨w.heap.size, 0, none⟩)) ∧ Blk w' w.heap.size 46 (refLV (newL node b)) ∧ Below w.heap.size w w' := by
  obtain ⟨m, hm⟩ : ∃ m, m = min b 4611686018427387904 := ⟨_, rfl⟩
  have HB : Hid (refLV (newL node b) = [.int .u16 (node : Int), .int .u64 (m : Int), .int .u64 (m : Int)]) := Lib.hid (by rw [hm]; rfl)
  rw [HB.out]
  by_cases h : 4611686018427387904 < b
  · have h1 : decide ((4611686018427387904 : Int) < (b : Int)) = true := decide_eq_true (by omega)
    have h2 : m = 4611686018427387904 := by omega
    have HM : Hid ((4611686018427387904 : Int) = (m : Int)) := Lib.hid (by rw [h2]; rfl)
    clear h hm h2
    go_enter Try.func7, Try.ntmps7
    go_wp2_with (fail)
    go_ret
    rw [HM.out]
    exact ⟨rfl, Blk.made w _ _, (Below.refl _ _).alloc (Nat.le_refl _) _⟩
  · have h1 : decide ((4611686018427387904 : Int) < (b : Int)) = false := decide_eq_false (by omega)
    obtain rfl : m = b := by omega
    clear h hm
    go_enter Try.func7, Try.ntmps7
    go_wp2_with (fail)
    go_ret
    exact ⟨rfl, Blk.made w _ _, (Below.refl _ _).alloc (Nat.le_refl _) _⟩
set_option maxRecDepth 100000 in
set_option maxHeartbeats 1000000 in
theorem refLWants_any {w : World} {q : Nat} {s : LS} (hs : LOk s) (h : Blk w q 46 (refLV s)) (n : Nat) (hn : n < 18446744073709551616) :
    Calls Try.prog 15 #[.pointer (some ⟨q, 0, none⟩), .int .u64 (n : Int)] w fun e w' => e = .returned (.tuple #[.int .u64 ((wantsL s n).1 : Int), .int .i64 ((wantsL s n).2 : Int)]) ∧ w' = w := by
  have c2 : w.cell? ⟨q, 2, none⟩ = some (.int .u64 (s.bound : Int)) := by rw [h.cell]; rfl
  obtain ⟨h1, h2, h3⟩ := hs
  obtain ⟨b, hb⟩ : ∃ b, b = s.bound := ⟨_, rfl⟩
  rw [← hb] at c2 h3
  by_cases hlt : 4611686018427387904 < s.bound + n
  · have e1 : wantsL s n = (0, 12) := by
      unfold wantsL
      rw [if_pos hlt]
    rw [e1]
    by_cases hn2 : 4611686018427387904 < n
    · have g1 : decide ((4611686018427387904 : Int) < (n : Int)) = true := decide_eq_true (by omega)
      clear e1 hlt hn2 h hn h1 h2 h3 hb
      go_enter Try.func15, Try.ntmps15
      go_wp2_with (fail)
      go_ret2
      exact ⟨rfl, rfl⟩
    · have g1 : decide ((4611686018427387904 : Int) < (n : Int)) = false := decide_eq_false (by omega)
      obtain ⟨t, ht⟩ : ∃ t, t = b + n := ⟨_, rfl⟩
      have e2 : IntKind.u64.wrap ((b : Int) + (n : Int)) = (t : Int) := by rw [IntWalk.u64_in _ (by omega), ht]; omega
      have g2 : decide ((4611686018427387904 : Int) < (t : Int)) = true := decide_eq_true (by omega)
      clear e1 hlt hn2 h hn h1 h2 h3 hb ht
      go_enter Try.func15, Try.ntmps15
      go_wp2_with (fail)
      go_ret2
      exact ⟨rfl, rfl⟩
  · have g1 : decide ((4611686018427387904 : Int) < (n : Int)) = false := decide_eq_false (by omega)
    obtain ⟨t, ht⟩ : ∃ t, t = b + n := ⟨_, rfl⟩
    have e2 : IntKind.u64.wrap ((b : Int) + (n : Int)) = (t : Int) := by rw [IntWalk.u64_in _ (by omega), ht]; omega
    have g2 : decide ((4611686018427387904 : Int) < (t : Int)) = false := decide_eq_false (by omega)
    have e1 : wantsL s n = (t, 0) := by
      unfold wantsL
      rw [if_neg hlt, ht, hb]
    rw [e1]
    clear e1 hlt h hn h1 h2 h3 hb ht
    go_enter Try.func15, Try.ntmps15
    go_wp2_with (fail)
    go_ret2
    exact ⟨rfl, rfl⟩
set_option maxRecDepth 100000 in
set_option maxHeartbeats 1000000 in
theorem refLGrant_any {w : World} {q : Nat} {s : LS} (h : Blk w q 46 (refLV s)) (n : Nat) :
    Calls Try.prog 13 #[.pointer (some ⟨q, 0, none⟩), .int .u64 (n : Int)] w fun e w' => e = .returned (.int .i64 ((grantL s n).2 : Int)) ∧ Blk w' q 46 (refLV (grantL s n).1) ∧ Sole w w' q := by
  have HH := Lib.hid h
  have c2 : w.cell? ⟨q, 2, none⟩ = some (.int .u64 (s.bound : Int)) := by rw [h.cell]; rfl
  have f2 : w.frozen? ⟨q, 2, none⟩ = false := h.free 2
  obtain ⟨b, hb⟩ : ∃ b, b = s.bound := ⟨_, rfl⟩
  rw [← hb] at c2
  by_cases h1 : n < s.bound
  · have e1 : grantL s n = (s, 13) := by
      unfold grantL
      rw [if_pos h1]
    have g1 : decide (n < b) = true := decide_eq_true (by omega)
    rw [e1]
    clear e1 h1 hb h
    go_enter Try.func13, Try.ntmps13
    go_wp2_with (fail)
    go_ret
    exact ⟨rfl, HH.out, Sole.refl _ _⟩
  · have g1 : decide (n < b) = false := decide_eq_false (by omega)
    by_cases h2 : 4611686018427387904 < n
    · have e1 : grantL s n = (s, 12) := by
        unfold grantL
        rw [if_neg h1, if_pos h2]
      have g2 : decide ((4611686018427387904 : Int) < (n : Int)) = true := decide_eq_true (by omega)
      rw [e1]
      clear e1 h1 h2 hb h
      go_enter Try.func13, Try.ntmps13
      go_wp2_with (fail)
      go_ret
      exact ⟨rfl, HH.out, Sole.refl _ _⟩
    · have e1 : grantL s n = (⟨s.node, s.next, n⟩, 0) := by
        unfold grantL
        rw [if_neg h1, if_neg h2]
      have g2 : decide ((4611686018427387904 : Int) < (n : Int)) = false := decide_eq_false (by omega)
      rw [e1]
      clear e1 h1 h2 hb h
      go_enter Try.func13, Try.ntmps13
      go_wp2_with (fail)
      go_ret
      exact ⟨rfl, HH.out.set 2 _, Sole.setCell _ _ _ _⟩
set_option maxRecDepth 100000 in
set_option maxHeartbeats 2000000 in
theorem refLTake_any {w : World} {q : Nat} {s : LS} (hs : LOk s) (h : Blk w q 46 (refLV s)) :
    Calls Try.prog 9 #[.pointer (some ⟨q, 0, none⟩)] w fun e w' => e = .returned (.tuple #[.int .u64 ((takeL s).2.1 : Int), .int .i64 ((takeL s).2.2 : Int)]) ∧ Blk w' q 46 (refLV (takeL s).1) ∧ Chg (fun j => j = q) w w' := by
  have HH := Lib.hid h
  obtain ⟨h1, h2, h3⟩ := hs
  obtain ⟨b, hb⟩ : ∃ b, b = s.bound := ⟨_, rfl⟩
  obtain ⟨x, hx⟩ : ∃ x, x = s.next := ⟨_, rfl⟩
  have c1 : ∀ m, (w.drewN m).cell? ⟨q, 1, none⟩ = some (.int .u64 (x : Int)) := fun m => by rw [(h.drewN m).cell, hx]; rfl
  have c2 : ∀ m, (w.drewN m).cell? ⟨q, 2, none⟩ = some (.int .u64 (b : Int)) := fun m => by rw [(h.drewN m).cell, hb]; rfl
  have f1 : ∀ m, (w.drewN m).frozen? ⟨q, 1, none⟩ = false := fun m => (h.drewN m).free 1
  by_cases hlt : s.next < s.bound
  · rw [takeL_yes hlt]
    have g1 : decide (x < b) = true := decide_eq_true (by omega)
    obtain ⟨y, hy⟩ : ∃ y, y = x + 1 := ⟨_, rfl⟩
    have e1 : IntKind.u64.wrap ((x : Int) + 1) = (y : Int) := by rw [IntWalk.u64_in _ (by omega), hy]; omega
    have e2 : IntKind.u64.wrap ((y : Int) - 1) = (x : Int) := by rw [IntWalk.u64_in _ (by omega), hy]; omega
    have HX : Hid (s.next = x ∧ s.next + 1 = y) := Lib.hid ⟨hx.symm, by rw [hy, hx]⟩
    clear h h1 h2 h3 hlt hb hx hy
    go_enter Try.func9, Try.ntmps9
    go_wp2_with (fail)
    go_quiet (fail)
    have d1 := c1 nq
    have d2 := f1 nq
    clear c1 c2 f1
    go_wp2_with (fail)
    go_ret2
    rw [HX.out.1]
    refine ⟨rfl, ?_, ?_⟩
    · have h5 := (HH.out.drewN nq).set 1 (.int .u64 (y : Int))
      rw [← HX.out.1, HX.out.2]
      exact h5
    · exact chg_join (Chg.drewN _ (Chg.refl _ w) nq) (sole_lone (Sole.setCell (w.drewN nq) q 1 (.int .u64 (y : Int))))
  · have g1 : decide (x < b) = false := decide_eq_false (by omega)
    by_cases hbt : s.bound = 4611686018427387904
    · rw [takeL_spent hlt hbt]
      have g2 : ((b : Int) == 4611686018427387904) = true := by rw [beq_iff_eq]; omega
      clear h h1 h2 h3 hlt hb hx hbt f1
      go_enter Try.func9, Try.ntmps9
      go_wp2_with (fail)
      go_quiet (fail)
      have d2 := c2 nq
      clear c1 c2
      go_wp2_with (fail)
      go_ret2
      exact ⟨rfl, HH.out.drewN nq, Chg.drewN _ (Chg.refl _ _) nq⟩
    · rw [takeL_wait hlt hbt]
      have g2 : ((b : Int) == 4611686018427387904) = false := by rw [beq_eq_false_iff_ne]; omega
      clear h h1 h2 h3 hlt hb hx hbt f1
      go_enter Try.func9, Try.ntmps9
      go_wp2_with (fail)
      go_quiet (fail)
      have d2 := c2 nq
      clear c1 c2
      go_wp2_with (fail)
      go_ret2
      exact ⟨rfl, HH.out.drewN nq, Chg.drewN _ (Chg.refl _ _) nq⟩
set_option maxRecDepth 100000 in
set_option maxHeartbeats 2000000 in
theorem refLNonce_any {w : World} {q : Nat} {s : LS} (hs : LOk s) (h : Blk w q 46 (refLV s)) :
    Calls Try.prog 11 #[.pointer (some ⟨q, 0, none⟩)] w fun e w' => e = .returned (.tuple #[arrV (nonceL s), .int .i64 ((takeL s).2.2 : Int)]) ∧ Blk w' q 46 (refLV (takeL s).1) ∧ Chg (fun j => j = q) w w' := by
  have HI : Hid ((Try.prog.info? 34).map (·.size) = some 12) := by show _ = _; kernel_rfl
  obtain ⟨W0, hW0⟩ : ∃ W : World, W = w.alloc (.cells #[Value.int .u8 0, Value.int .u8 0, Value.int .u8 0, Value.int .u8 0, Value.int .u8 0, Value.int .u8 0, Value.int .u8 0, Value.int .u8 0, Value.int .u8 0, Value.int .u8 0, Value.int .u8 0, Value.int .u8 0] 34) := ⟨_, rfl⟩
  have D0 : Hid (Below w.heap.size w W0) := Lib.hid (by rw [hW0]; exact (Below.refl _ _).alloc (Nat.le_refl _) _)
  have R0 : Hid (Blk W0 w.heap.size 34 (List.replicate 12 (Value.int .u8 0))) := Lib.hid (by rw [hW0]; exact Blk.made w _ _)
  have q0 : Blk W0 q 46 (refLV s) := h.below D0.out h.lt
  have HLT : Hid (q < w.heap.size) := Lib.hid h.lt
  have HTK := Lib.hid (refLTake_any hs q0)
  have HCS := Lib.hid (takeL_cases s)
  have HND : Hid (s.node < 65536 ∧ s.next ≤ 4611686018427387904) := Lib.hid ⟨hs.1, by have := hs.2; omega⟩
  obtain ⟨node, hnode⟩ : ∃ node, node = s.node := ⟨_, rfl⟩
  have HN0 := Lib.hid hnode
  obtain ⟨s', hs'⟩ : ∃ s', s' = (takeL s).1 := ⟨_, rfl⟩
  obtain ⟨v, hv⟩ : ∃ v, v = (takeL s).2.1 := ⟨_, rfl⟩
  obtain ⟨c, hc⟩ : ∃ c, c = (takeL s).2.2 := ⟨_, rfl⟩
  obtain ⟨bs, hbs⟩ : ∃ bs, bs = nonceL s := ⟨_, rfl⟩
  have HBS : Hid (bs = if c = 0 then nonceB s.node v else List.replicate 12 0) := Lib.hid (by rw [hbs, hc, hv]; rfl)
  have HBL : Hid (bs.length = 12) := Lib.hid (by rw [hbs]; exact nonceL_length s)
  rw [← hs', ← hv, ← hc] at HTK HCS
  rw [← hs', ← hc, ← hbs]
  clear hs h q0 hnode hs' hv hc hbs
  go_enter Try.func11, Try.ntmps11
  go_upto_region 1 with (fail)
  rw [← hW0]
  clear hW0
  go_wp2_with (fail)
  refine HTK.out.mono ?_
  rintro e w1 ⟨rfl, hb1, hc1⟩
  have K1 := Lib.hid hb1
  have C1 := Lib.hid hc1
  have R1 : Hid (Blk w1 w.heap.size 34 (List.replicate 12 (Value.int .u8 0))) := Lib.hid (hc1.blk R0.out (by have := HLT.out; omega))
  have HCH : Hid (Chg (fun j => j = q) w w1) := Lib.hid (chg_join (chg_below D0.out) hc1)
  clear hb1 hc1
  rcases HCS.out with ⟨rfl, h1, h2, h3⟩ | ⟨h1, h2, h3, h4⟩
  · have HVL : Hid ((node : Int) ≤ 65535 ∧ (v : Int) ≤ 18446744073709551615) := Lib.hid (by have := HND.out; have := HN0.out; omega)
    have c0 : w1.cell? ⟨q, 0, none⟩ = some (.int .u16 (node : Int)) := by rw [K1.out.cell, h2, HN0.out]; rfl
    clear h1 h2 h3
    go_wp2_with (fail)
    refine (refNonce_any node v w1 HVL.out.1 HVL.out.2).mono ?_
    rintro e w2 ⟨rfl, b2⟩
    have R2 := Lib.hid (R1.out.below b2 R1.out.lt)
    have K2 := Lib.hid (K1.out.below b2 K1.out.lt)
    have C2 : Hid (Chg (fun j => j = q) w w2) := Lib.hid (chg_join HCH.out (chg_below b2))
    obtain ⟨nb, hnb⟩ : ∃ nb, nb = nonceB node v := ⟨_, rfl⟩
    have HNB : Hid (bs = nb) := Lib.hid (by rw [HBS.out, hnb, HN0.out]; simp)
    have HNL : Hid ((nb.map bv).length = 12) := Lib.hid (by rw [List.length_map, ← HNB.out]; exact HBL.out)
    rw [← hnb]
    clear b2 c0 hnb
    go_wp2_with (refine wpList_store_blk rfl 34 _ _ rfl w.heap.size 34 _ R2.out (nb.map bv) rfl rfl (by rw [HNL.out]; rfl) (by rw [HNL.out]; exact HI.out) (bv_one _) ?_; intro w9 hb9 hs9)
    refine bodyPost_ret (v := .tuple #[arrV nb, .int .i64 0]) ?_ rfl ⟨by rw [HNB.out]; rfl, ?_, ?_⟩
    · exact results_blk_tmp (ty := 34) Try.results11 _ w9 w.heap.size 34 (nb.map bv) _ _ rfl rfl hb9 Try.underlying34 rfl (by rw [HNL.out]; exact HI.out)
    · exact hs9.blk K2.out (by have := HLT.out; omega)
    · exact C2.out.trans ((sole_lone hs9).mono fun j hj => .inr (by rw [hj]; exact Nat.le_refl _))
  · have hcd : c ≠ 0 := by omega
    have HZB : Hid (bs.map bv = List.replicate 12 (Value.int .u8 0)) := Lib.hid (by rw [HBS.out, if_neg hcd, List.map_replicate]; rfl)
    have gc : ((c : Int) == 0) = false := by rw [beq_eq_false_iff_ne]; omega
    clear h1 h2 h3 h4 hcd
    go_wp2_with (refine wpList_store_blk rfl 34 _ _ rfl w.heap.size 34 _ R1.out (List.replicate 12 (Value.int .u8 0)) rfl rfl rfl HI.out (by intro u hu; rw [List.eq_of_mem_replicate hu]; rfl) ?_; intro w9 hb9 hs9)
    refine bodyPost_ret (v := .tuple #[arrV bs, .int .i64 (c : Int)]) ?_ rfl ⟨rfl, ?_, ?_⟩
    · have h9 := hb9
      rw [← HZB.out] at h9
      exact results_blk_tmp (ty := 34) Try.results11 _ w9 w.heap.size 34 (bs.map bv) _ _ rfl rfl h9 Try.underlying34 rfl (by rw [List.length_map, HBL.out]; exact HI.out)
    · exact hs9.blk K1.out (by have := HLT.out; omega)
    · exact HCH.out.trans ((sole_lone hs9).mono fun j hj => .inr (by rw [hj]; exact Nat.le_refl _))
end Go.Proofs.Ytmdpoceadjdhmaa
