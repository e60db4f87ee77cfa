/- The thirteenth law's example. Premise: the contracts. -/
import Derived.Test.YthhojjdccfcicaaPcCon
import Derived.Test.YthhojjdccfcicaaPcAl
namespace Go.Proofs.Ythhojjdccfcicaa
open Go.RowKit

def exA : Pc := ⟨⟨#[97]⟩, 1, 5, 1, 0⟩
def exB : Pc := ⟨⟨#[97]⟩, 1, 6, 2, 0⟩
theorem ex_ok : exA.Ok ∧ exB.Ok := ⟨⟨by decide, by decide, by decide, by decide, by decide⟩, ⟨by decide, by decide, by decide, by decide, by decide⟩⟩
theorem ex_merged : MergedOf [exB] [exA, exB] := by
  have hm : exB.may := ⟨by decide, by decide⟩
  refine ⟨List.pairwise_singleton _ _, fun p hp => ?_, fun p hp q hq _ _ => ?_, fun q hq _ => ⟨exB, List.mem_singleton.2 rfl, ?_⟩⟩
  · rw [List.mem_singleton.1 hp]
    exact ⟨by simp, hm⟩
  · rw [List.mem_singleton.1 hp, outP_iff]
    rcases List.mem_cons.1 hq with e | e
    · rw [e]
      decide
    · rw [List.mem_singleton.1 e]
      decide
  · rcases List.mem_cons.1 hq with e | e
    · rw [e]
      exact ⟨rfl, rfl⟩
    · rw [List.mem_singleton.1 e]
      exact ⟨rfl, rfl⟩
set_option maxRecDepth 100000 in
set_option maxHeartbeats 2000000 in
theorem awakeP_any (PC : PieceC) (w : World) : Calls Try.prog 5 #[] w fun e w' => e = .returned (.bool true) ∧ Below w.heap.size w w' := by
  have HM : Hid (∀ W : World, w.heap.size ≤ W.heap.size → Calls Try.prog 13 #[.slice (some ⟨W.heap.size + 1 + 1, 0, none⟩) 2 2] (((W.alloc (.cells exA.vs.toArray 27)).alloc (.cells exB.vs.toArray 27)).alloc (.cells #[.slice (some ⟨W.heap.size, 0, none⟩) 1 1, .slice (some ⟨W.heap.size + 1, 0, none⟩) 1 1] 34)) fun e w' => ∃ g o c, e = .returned (.slice (some ⟨g, o, none⟩) 1 c) ∧ w'.cell? ⟨g, o + 2, none⟩ = some (.int .i64 6) ∧ Below W.heap.size W w') := Lib.hid fun W _ => by
    have h1 : RsP (W.alloc (.cells exA.vs.toArray 27)) (.slice (some ⟨W.heap.size, 0, none⟩) 1 1) [exA] := rsP_one W exA 27 1 ex_ok.1
    have h2 := rsP_one (W.alloc (.cells exA.vs.toArray 27)) exB 27 1 ex_ok.2
    have h3 := psP_two 34 2 (h1.alloc (.cells exB.vs.toArray 27)) h2
    simp only [World.size_alloc] at h3
    refine (PC.merge _ _ _ h3 (by simp) (by simp)).mono ?_
    rintro e w' ⟨u, M, rfl, hM, hr, hb⟩
    obtain rfl : M = [exB] := merged_one hM ex_merged
    obtain ⟨A, c, rfl, _⟩ := hr.form
    obtain ⟨g, o, rfl, _, hc, _⟩ := hr.at' (i := 0) (by simp)
    exact ⟨g, o, c, rfl, (range5 hc).2.2.1, (((Below.refl _ W).alloc (Nat.le_refl _) _).alloc (by simp) _).alloc (by simp; omega) _ |>.trans (hb.mono (by simp; omega))⟩
  go_enter Try.func5, Try.ntmps5
  go_wp2_with (fail)
  refine (HM.out w (Nat.le_refl _)).mono ?_
  rintro e w1 ⟨g, o, c, rfl, hc, hb⟩
  have B1 := Lib.hid hb
  clear hb
  go_wp2_with (fail)
  go_ret
  exact ⟨rfl, B1.out⟩
end Go.Proofs.Ythhojjdccfcicaa
