/- Part 40 of the words that the laws share: SlotK. No condition of its own: each theorem says its own. -/
import Derived.Test.YtnaccngcpjkmbaaDoorPart35
import Derived.Test.YtnaccngcpjkmbaaDoorPart39

/- The contracts of the developers' slot, for the tenth layer's laws and for a layer above. No condition of its own. -/
namespace Go.Proofs.YtnaccngcpjkmbaaDoor
open Go.RowKit

def PairIs (w : World) (pp dp : Value) (a k : Nat) (F : Nat → Prop) : Prop := ∃ X D, pp = .pointer (some ⟨X, 0, none⟩) ∧ dp = .pointer (some ⟨D, 0, none⟩) ∧ Blk w X 51 (prV dp a k) ∧ F = fun j => j = X
theorem int_wf {a : Int} (h : (Lit.int .i64 a).wf = true) : -9223372036854775808 ≤ a ∧ a ≤ 9223372036854775807 := by
  have h2 := h
  simp [Lit.wf, IntKind.min, IntKind.max, IntKind.signed, IntKind.bits] at h2
  omega
theorem both_at {w : World} {pp dp : Value} {a k : Nat} {S : DS} {F : Nat → Prop} (h : Both diskw PairIs w pp dp a k S F) (h1 : 1 ≤ k) (h2 : a + 2 * k ≤ 1024) : ∃ X D F1, pp = .pointer (some ⟨X, 0, none⟩) ∧ dp = .pointer (some ⟨D, 0, none⟩) ∧ SlAt diskw w X a k D S F1 ∧ (F = fun j => F1 j ∨ j = X) := by
  obtain ⟨F1, F2, h3, ⟨X, D, rfl, rfl, h4, rfl⟩, h5, rfl⟩ := h
  exact ⟨X, D, F1, rfl, rfl, ⟨h4, h3, fun j hj e => h5 j hj e, h1, h2⟩, rfl⟩
theorem left_both {w w' : World} {X a k D : Nat} {S' : DS} {F1 : Nat → Prop} (_hX : X < w.heap.size) (h : SlLeft diskw w w' X a k D S' F1) : BLeft diskw PairIs w w' (.pointer (some ⟨X, 0, none⟩)) (.pointer (some ⟨D, 0, none⟩)) a k S' (fun j => F1 j ∨ j = X) := by
  obtain ⟨⟨F', h1, h2⟩, h3⟩ := h
  refine ⟨⟨_, ⟨F', _, h1.dk, ⟨X, D, rfl, rfl, h1.pr, rfl⟩, fun j hj e => h1.ap j hj e, rfl⟩, fun j hj => ?_⟩, h3.mono fun j hj => .inl hj⟩
  rcases hj with hj | hj
  · exact (h2 j hj).imp .inl id
  · exact .inl (.inr hj)
noncomputable def slotc : SlotC diskw := {
  At := PairIs
  other := by
    rintro w w' pp dp a k F G ⟨X, D, rfl, rfl, h, rfl⟩ hc hd
    exact ⟨X, D, rfl, rfl, hc.blk h (hd X rfl), rfl⟩
  lt := by
    rintro w pp dp a k F ⟨X, D, rfl, rfl, h, rfl⟩ j rfl
    exact h.lt
  opn := by
    rintro w dp S F ⟨X, _, _, _, rfl, h, rfl⟩ a k _ _ h1 h2 h3
    obtain ⟨a, rfl⟩ := Int.eq_ofNat_of_zero_le h2
    obtain ⟨k, rfl⟩ := Int.eq_ofNat_of_zero_le (show 0 ≤ k by omega)
    refine (slOpen_any X a k w (by omega) (by omega)).mono ?_
    rintro e w' ⟨rfl, hb, hl⟩
    exact ⟨_, rfl, ⟨_, ⟨_, X, rfl, rfl, hb, rfl⟩, fun j hj => by rw [hj]; exact Nat.le_refl _⟩, hl⟩
  bad := by
    rintro w dp S F ⟨X, _, _, _, rfl, h, rfl⟩ a k ha _ h1
    refine (slOpen_bad X a k w (int_wf ha) h1).mono ?_
    rintro e w' ⟨rfl, rfl⟩
    exact ⟨rfl, Below.refl _ _⟩
  load := by
    intro w pp dp a k S F h hs h1 h2
    obtain ⟨X, D, F1, rfl, rfl, hA, rfl⟩ := both_at h h1 h2
    exact slLoad_any hA hs
  save := by
    intro w pp dp a k S F h hs hF h1 h2 u bs hr hu hb hd hm ho
    obtain ⟨X, D, F1, rfl, rfl, hA, rfl⟩ := both_at h h1 h2
    refine (slSaveX_any hA hs u bs hr (fun h0 j hj e => hu h0 j hj (.inl e)) hb hd hm (by omega)).mono ?_
    rintro e w' ⟨n, rfl, hn, hl⟩
    exact ⟨n, rfl, hn, left_both hA.pr.lt hl⟩
  wipe := by
    intro w pp dp a k S F h hs hF h1 h2 u bs hr hu hb hd hm ho he
    obtain ⟨X, D, F1, rfl, rfl, hA, rfl⟩ := both_at h h1 h2
    refine (slWipeX_any hA hs (fun j hj => hF j (.inl hj)) u bs hr (fun h0 j hj e => hu h0 j hj (.inl e)) hb hd hm (by omega) he).mono ?_
    rintro e w' ⟨n, rfl, hn, hl⟩
    exact ⟨n, rfl, hn, left_both hA.pr.lt hl⟩ }
theorem slotn : SlotN := {
  opn := fun a k w _ _ => (slOpen_nil a k w).mono fun _ _ ⟨h1, h2⟩ => ⟨h1, h2 ▸ Below.refl _ _⟩
  load := fun w => (slLoad_nil w).mono fun _ _ ⟨h1, h2⟩ => ⟨_, _, h1, h2 ▸ Below.refl _ _⟩
  save := fun u _ w _ => (slSave_nil u w).mono fun _ _ ⟨h1, h2⟩ => ⟨_, h1, h2 ▸ Below.refl _ _⟩
  wipe := fun u _ w _ => (slWipe_nil u w).mono fun _ _ ⟨h1, h2⟩ => ⟨_, h1, h2 ▸ Below.refl _ _⟩ }
end Go.Proofs.YtnaccngcpjkmbaaDoor
