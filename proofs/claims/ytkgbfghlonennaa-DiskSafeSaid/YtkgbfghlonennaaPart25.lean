/- Part 25 of the words that the laws share: DiskK. No condition of its own: each theorem says its own. -/
import Derived.Test.YtkgbfghlonennaaPart24

/- The contracts of the developers' disk: what the ninth layer's laws need of it. No condition of its own. -/
namespace Go.Proofs.Ytkgbfghlonennaa
open Go.RowKit

/-- A pointer leads to a disk that reads as S. -/
def DiskIs (w : World) (p : Value) (S : DS) (F : Nat → Prop) : Prop := ∃ X a b c, p = .pointer (some ⟨X, 0, none⟩) ∧ Dk w X a b c S ∧ F = DkF X a b c
theorem left_same {w w' : World} {X : Nat} {a b c : Option Nat} {S' : DS} (h : Dk w' X a b c S') (hc : Chg (DkF X a b c) w w') : DLeft DiskIs w w' (.pointer (some ⟨X, 0, none⟩)) S' (DkF X a b c) :=
  ⟨⟨DkF X a b c, ⟨X, a, b, c, rfl, h, rfl⟩, fun _ hj => .inl hj⟩, hc⟩
noncomputable def diskc : DiskC := {
  Is := DiskIs
  other := by
    rintro w w' p S F G ⟨X, a, b, c, rfl, h, rfl⟩ hc hd
    exact ⟨X, a, b, c, rfl, h.other hc hd, rfl⟩
  lt := by
    rintro w p S F ⟨X, a, b, c, rfl, h, rfl⟩
    exact h.lt
  good := by
    rintro w p S F ⟨X, a, b, c, rfl, h, rfl⟩
    exact h.ok
  new := fun w => (dkNew_any w).mono fun _ _ ⟨h1, h2, h3⟩ => ⟨_, h1, ⟨_, ⟨_, _, _, _, rfl, h2, rfl⟩, fun k hk => by
    rcases hk with rfl | hk | hk | hk
    · exact Nat.le_refl _
    · cases hk
    · cases hk
    · cases hk⟩, h3⟩
  write := by
    rintro w p S F ⟨X, a, b, c, rfl, h, rfl⟩ k u bs _ hr _ ho hu
    refine (dkWrite_any h k u bs hr ho hu).mono ?_
    rintro e w' ⟨rfl, a', b', c', h1, h2, h3⟩
    exact ⟨rfl, ⟨DkF X a' b' c', ⟨X, a', b', c', rfl, h1, rfl⟩, h2⟩, h3⟩
  sync := by
    rintro w p S F ⟨X, a, b, c, rfl, h, rfl⟩ ho
    exact (dkSync_any h ho).mono fun _ _ ⟨h1, h2, h3⟩ => ⟨h1, left_same h2 h3⟩
  fuse := by
    rintro w p S F ⟨X, a, b, c, rfl, h, rfl⟩ n hn
    exact (dkFuse_any h n hn).mono fun _ _ ⟨h1, h2, h3⟩ => ⟨h1, left_same h2 ((sole_only h3).mono fun j hj => .inl hj)⟩
  boot := by
    rintro w p S F ⟨X, a, b, c, rfl, h, rfl⟩ u fs hr _ hu
    exact (dkBoot_any h u fs hr hu).mono fun _ _ ⟨h1, h2, h3⟩ => ⟨h1, left_same h2 h3⟩
  read := by
    rintro w p S F ⟨X, a, b, c, rfl, h, rfl⟩ k _
    exact dkRead_any h k
  dead := by
    rintro w p S F ⟨X, a, b, c, rfl, h, rfl⟩
    exact (dkDead_any h).mono fun _ _ ⟨h1, h2⟩ => ⟨h1, h2 ▸ Below.refl _ _⟩
  ops := by
    rintro w p S F ⟨X, a, b, c, rfl, h, rfl⟩
    exact (dkOps_any h).mono fun _ _ ⟨h1, h2⟩ => ⟨h1, h2 ▸ Below.refl _ _⟩
  raw := by
    rintro w p S F ⟨X, a, b, c, rfl, h, rfl⟩
    exact dkRaw_any h
  copy := by
    rintro w p S F ⟨X, a, b, c, rfl, h, rfl⟩
    exact (dkCopy_any h).mono fun _ _ ⟨N, a', b', c', h1, h2, h3, h4⟩ => ⟨_, h1, ⟨_, ⟨_, _, _, _, rfl, h2, rfl⟩, h3⟩, h4⟩ }
theorem diskn : DiskN := {
  write := fun k u _ w _ _ => (dkWrite_nil w k u).mono fun _ _ ⟨h1, h2⟩ => ⟨h1, h2 ▸ Below.refl _ _⟩
  sync := fun w => (dkSync_nil w).mono fun _ _ ⟨h1, h2⟩ => ⟨h1, h2 ▸ Below.refl _ _⟩
  fuse := fun n w _ => (dkFuse_nil w n).mono fun _ _ ⟨h1, h2⟩ => ⟨h1, h2 ▸ Below.refl _ _⟩
  boot := fun u _ w _ => (dkBoot_nil w u).mono fun _ _ ⟨h1, h2⟩ => ⟨h1, h2 ▸ Below.refl _ _⟩
  read := fun k w _ => (dkRead_nil k w).mono fun _ _ ⟨h1, h2⟩ => ⟨_, h1, Rd.nil _, h2 ▸ Below.refl _ _⟩
  dead := fun w => (dkDead_nil w).mono fun _ _ ⟨h1, h2⟩ => ⟨h1, h2 ▸ Below.refl _ _⟩
  ops := fun w => (dkOps_nil w).mono fun _ _ ⟨h1, h2⟩ => ⟨h1, h2 ▸ Below.refl _ _⟩
  raw := fun w => (dkRaw_nil w).mono fun _ _ ⟨h1, h2⟩ => ⟨_, h1, Rd.nil _, h2 ▸ Below.refl _ _⟩
  copy := fun w => (dkCopy_nil w).mono fun _ _ ⟨h1, h2⟩ => ⟨h1, h2 ▸ Below.refl _ _⟩ }
end Go.Proofs.Ytkgbfghlonennaa
