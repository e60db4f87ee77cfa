/- Part 7 of the words that the laws share: DlAw. No condition of its own: each theorem says its own. -/
import Derived.Test.YtcicdbhffkpldaaPart5
import Derived.Test.YtcicdbhffkpldaaPart3
import Derived.Test.YtcicdbhffkpldaaPart4
import Derived.Test.YtcicdbhffkpldaaPart6
import Derived.Test.YtcicdbhffkpldaaPart1

/- The fourteenth law's example. Premise: the contracts. -/
namespace Go.Proofs.Ytcicdbhffkpldaa
open Go.RowKit

theorem rd_cut {w : World} {A : Option Addr} {n c : Nat} {xs : List UInt8} (h : Rd w (.slice A n c) xs) (k : Nat) (hk : k ≤ xs.length) : Rd w (.slice A k c) (xs.take k) := by
  rcases h with ⟨A', c', he, h1, h2, rfl⟩ | ⟨b, off, c', he, h2, h3, h4, h5⟩
  · injection he with e1 e2 e3
    subst e1 e2 e3
    obtain rfl : k = 0 := by simpa using hk
    exact .inl ⟨A, c, rfl, h1, h2, by simp⟩
  · injection he with e1 e2 e3
    subst e1 e2 e3
    refine .inr ⟨b, off, c, by rw [List.length_take, Nat.min_eq_left hk], h2, by rw [List.length_take]; omega, h4, fun i hi => ?_⟩
    rw [List.length_take] at hi
    rw [List.getElem_take]
    exact h5 i (by omega)
set_option maxRecDepth 100000 in
set_option maxHeartbeats 2000000 in
theorem awakeD_any (DC : DeltaC) (w : World) : Calls Try.prog 7 #[] w fun e w' => e = .returned (.bool true) ∧ Below w.heap.size w w' := by
  have HL : Hid (∀ W : World, Calls Try.prog 8 #[.slice (some ⟨W.heap.size, 0, none⟩) 1 1] (W.alloc (.cells exD.vs.toArray 46)) fun e w' => ∃ u, e = .returned (.tuple #[u, .int .i64 0]) ∧ Rd w' u (layD [exD]) ∧ Below W.heap.size W w') := Lib.hid fun W => by
    have h1 := DC.lay _ _ _ (rsP_one W exD 46 1 exD_ok) (by simp) (fun p hp => by rw [List.mem_singleton.1 hp]; decide)
    rw [exD_check, if_pos rfl] at h1
    refine h1.mono ?_
    rintro e w' ⟨u, rfl, hr, hb⟩
    exact ⟨u, rfl, hr, ((Below.refl _ W).alloc (Nat.le_refl _) _).trans (hb.mono (by simp))⟩
  go_enter Try.func7, Try.ntmps7
  go_wp2_with (fail)
  refine (HL.out w).mono ?_
  rintro e w1 ⟨u, rfl, hr, hb⟩
  obtain ⟨h43, h11⟩ := exD_lay
  obtain ⟨xs, hxs⟩ : ∃ xs, xs = layD [exD] := ⟨_, rfl⟩
  rw [← hxs] at hr h43 h11
  clear hxs
  obtain ⟨A, c, rfl, hc1, hc2, _⟩ := hr.form
  rw [h43] at hc1 hr ⊢
  have r1 := rd_cut hr 11 (by omega)
  rw [h11] at r1
  have hcI : (11 : Int) ≤ c := by omega
  have hc0 : ¬ c = 0 := by omega
  have B1 := Lib.hid hb
  have R1 := Lib.hid r1
  clear hr hb r1 h43 h11 hc1 hc2
  go_wp2_with (fail)
  refine (same_any _ _ [9, 0, 1, 1, 97, 1, 10, 1, 3, 1, 0] [9, 0, 1, 1, 97, 1, 10, 1, 3, 1, 0] _ (R1.out.alloc _) (rd_litm [9, 0, 1, 1, 97, 1, 10, 1, 3, 1, 0] 11 11 rfl (Nat.le_refl _) (by simp [maxLen]))).mono ?_
  rintro e w2 ⟨he, hd⟩
  rw [decide_eq_true rfl] at he
  subst he
  have B2 := Lib.hid (show Below w.heap.size w w2 by
    obtain ⟨m, rfl⟩ := hd
    exact below_drewN (B1.out.alloc B1.out.size _) m)
  clear hd
  go_wp2_with (fail)
  go_ret
  exact ⟨rfl, B2.out⟩
end Go.Proofs.Ytcicdbhffkpldaa
