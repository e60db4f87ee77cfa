/- The contracts of the eighth reference's Places and SameShares. Conditions: shares of 33 bytes, at most 1000. -/
import Derived.Test.YtpegnafapjcanaaShSpec
import Derived.Test.YtpegnafapjcanaaShEq
import Derived.Test.YtpegnafapjcanaaShVal
import Derived.Test.YtpegnafapjcanaaQLoad
namespace Go.Proofs.Ytpegnafapjcanaa
open Go.RowKit

def XP (L : List (List UInt8)) (k : Nat) : UInt8 := shX (L.getD k [])
/-- Two of the first i have one place, or one of the first k has that of the place i. -/
def TwTo (L : List (List UInt8)) (i k : Nat) : Prop := (∃ q j, q < j ∧ j < i ∧ XP L q = XP L j) ∨ ∃ q, q < k ∧ XP L q = XP L i
theorem twTo_end (L : List (List UInt8)) (i : Nat) : TwTo L i i ↔ TwTo L (i + 1) 0 := by
  constructor
  · rintro (⟨q, j, h1, h2, h3⟩ | ⟨q, h1, h2⟩)
    · exact .inl ⟨q, j, h1, by omega, h3⟩
    · exact .inl ⟨q, i, h1, by omega, h2⟩
  · rintro (⟨q, j, h1, h2, h3⟩ | ⟨q, h1, _⟩)
    · by_cases e : j = i
      · subst e; exact .inr ⟨q, h1, h3⟩
      · exact .inl ⟨q, j, h1, by omega, h3⟩
    · omega
theorem twTo_all (L : List (List UInt8)) : TwTo L L.length 0 ↔ TwiceIn L := by
  constructor
  · rintro (⟨q, j, h1, h2, h3⟩ | ⟨q, h1, _⟩)
    · exact ⟨q, j, h1, h2, h3⟩
    · omega
  · rintro ⟨q, j, h1, h2, h3⟩
    exact .inl ⟨q, j, h1, h2, h3⟩
def EvIs (e : Value) (D : Prop) : Prop := (e = .int .i64 0 ∧ ¬ D) ∨ (e = .int .i64 7 ∧ D)
theorem EvIs.iff {e : Value} {D D' : Prop} (h : EvIs e D) (hd : D ↔ D') : EvIs e D' := h.imp (fun h => ⟨h.1, fun h2 => h.2 (hd.2 h2)⟩) fun h => ⟨h.1, hd.1 h.2⟩
def PlyRel (L : List (List UInt8)) (i : Nat) (w : World) (e v : Value) (W : World) : Prop := ∃ k m : Nat, v = .int .i64 (k : Int) ∧ k ≤ i ∧ EvIs e (TwTo L i k) ∧ W = w.drewN m
noncomputable def body_ply : Code := (((Try.f13.body.map loopsOf).getD [])[1]?).getD .skip
set_option maxRecDepth 100000 in
set_option maxHeartbeats 2000000 in
theorem ply_loop (c1 c2 c6 c7 c8 c9 c10 c11 c12 c13 c14 c15 c16 c17 c18 c19 c20 c21 c22 c23 c24 c25 c26 c27 c28 c29 c30 c31 c32 c33 c34 : Value) (L : List (List UInt8)) (n i b off c : Nat) (ev : Value) (w : World) (hi : i < n) (hn : n ≤ 1000) (hc : Hid (∀ m k, k < n → (w.drewN m).cell? ⟨b, off + k * 33, none⟩ = some (.int .u8 ((XP L k).toNat : Int)))) (he : Hid (EvIs ev (TwTo L i 0))) {Q : Exit → Act → World → Prop}
    (HQ : Hid (∀ (u5 u18 u19 u20 u21 u22 u23 u24 u25 u26 u27 u28 u29 u30 u31 u32 u33 ev' : Value) (m : Nat), Hid (EvIs ev' (TwTo L (i + 1) 0)) → Q (.exit 2) ⟨List.toArray ((.slice (some ⟨b, off, none⟩) n c) :: c1 :: c2 :: ev' :: (.int .i64 (i : Int)) :: u5 :: c6 :: c7 :: c8 :: c9 :: c10 :: c11 :: c12 :: c13 :: c14 :: c15 :: c16 :: c17 :: u18 :: u19 :: u20 :: u21 :: u22 :: u23 :: u24 :: u25 :: u26 :: u27 :: u28 :: u29 :: u30 :: u31 :: u32 :: u33 :: c34 :: []), []⟩ (w.drewN m))) :
    (Code.loop body_ply).wp Try.prog Q ⟨List.toArray ((.slice (some ⟨b, off, none⟩) n c) :: c1 :: c2 :: ev :: (.int .i64 (i : Int)) :: (.int .i64 0) :: c6 :: c7 :: c8 :: c9 :: c10 :: c11 :: c12 :: c13 :: c14 :: c15 :: c16 :: c17 :: c18 :: c19 :: c20 :: c21 :: c22 :: c23 :: c24 :: c25 :: c26 :: c27 :: c28 :: c29 :: c30 :: c31 :: c32 :: c33 :: c34 :: []), []⟩ w := by
  have iI : (i : Int) < n := by omega
  have HI := Lib.hid hi
  have nI : (n : Int) ≤ 1000 := by omega
  clear hi hn
  unfold body_ply
  conv => arg 2; arg 1; whnf
  go_loopw [3, 5] (fun e v wx => PlyRel L i w e v wx) (fun _ v _ => i - (intOf v).toNat)
  case atStart => exact ⟨0, 0, rfl, by omega, he.out, rfl⟩
  case round =>
    obtain ⟨k, m0, rfl, hk, hev, rfl⟩ := hrel
    by_cases hlt : k < i
    · have hI : (k : Int) < i := by omega
      have kN : (k : Int) < n := by omega
      obtain ⟨x, hx⟩ : ∃ x, x = XP L k := ⟨_, rfl⟩
      obtain ⟨y, hy⟩ : ∃ y, y = XP L i := ⟨_, rfl⟩
      have c1 : ∀ m, (w.drewN m).cell? ⟨b, off + k * 33, none⟩ = some (.int .u8 (x.toNat : Int)) := fun m => by rw [hx]; exact hc.out m k (by omega)
      have c2 : ∀ m, (w.drewN m).cell? ⟨b, off + i * 33, none⟩ = some (.int .u8 (y.toNat : Int)) := fun m => by rw [hy]; exact hc.out m i HI.out
      by_cases hxy : x = y
      · have hD : Hid (TwTo L i (k + 1)) := Lib.hid (.inr ⟨k, by omega, by rw [← hx, ← hy]; exact hxy⟩)
        have e1 : ((x.toNat : Int) == (y.toNat : Int)) = true := by rw [hxy]; exact beq_self_eq_true _
        have HL := Lib.hid hlt
        clear hx hy hxy hev hlt hk
        go_wp2_with (fail)
        go_quiet (fail)
        go_wp2_with (fail)
        refine ⟨⟨k + 1, _, by go_num, by have := HL.out; omega, .inr ⟨rfl, hD.out⟩, rfl⟩, by have := HL.out; simp [intOf]; omega⟩
      · have hD : Hid (TwTo L i k ↔ TwTo L i (k + 1)) := Lib.hid (by
          constructor
          · rintro (h | ⟨q, h1, h2⟩)
            · exact .inl h
            · exact .inr ⟨q, by omega, h2⟩
          · rintro (h | ⟨q, h1, h2⟩)
            · exact .inl h
            · by_cases e : q = k
              · subst e
                rw [← hx, ← hy] at h2
                exact absurd h2 hxy
              · exact .inr ⟨q, by omega, h2⟩)
        have e1 : ((x.toNat : Int) == (y.toNat : Int)) = false := by
          rw [beq_eq_false_iff_ne]
          exact fun h => hxy (UInt8.toNat_inj.1 (by omega))
        have HL := Lib.hid hlt
        have HEV := Lib.hid hev
        clear hx hy hxy hev hlt hk
        go_wp2_with (fail)
        go_quiet (fail)
        go_wp2_with (fail)
        refine ⟨⟨k + 1, _, by go_num, by have := HL.out; omega, HEV.out.iff hD.out, rfl⟩, by have := HL.out; simp [intOf]; omega⟩
    · obtain rfl : k = i := by omega
      have HEV := Lib.hid (hev.iff (twTo_end L k))
      clear hev
      go_wp2_with (fail)
      exact HQ.out _ _ _ _ _ _ _ _ _ _ _ _ _ _ _ _ _ _ _ HEV
def PlxRel (L : List (List UInt8)) (w : World) (e v : Value) (W : World) : Prop := ∃ i m : Nat, v = .int .i64 (i : Int) ∧ i ≤ L.length ∧ (∀ q, q < i → XP L q ≠ 0) ∧ EvIs e (TwTo L i 0) ∧ W = w.drewN m
set_option maxRecDepth 100000 in
set_option maxHeartbeats 2000000 in
theorem refPlaces_any (v : Value) (L : List (List UInt8)) (w : World) (hr : Rf 33 w v L) (hn : L.length ≤ 1000) :
    Calls Try.prog 13 #[v] w fun e w' => e = .returned (.int .i64 (placesB L : Int)) ∧ ∃ m, w' = w.drewN m := by
  obtain ⟨A, c, rfl, hc1, hc2, hA⟩ := hr.form
  have HA := Lib.hid hA
  have nI : (L.length : Int) ≤ 1000 := by omega
  have HN := Lib.hid hn
  clear hA hr hn
  go_enter Try.func13, Try.ntmps13
  go_wp2_with (fail)
  go_loopw [3, 4] (fun e v wx => PlxRel L w e v wx) (fun _ v _ => L.length - (intOf v).toNat)
  case atStart => exact ⟨0, 0, rfl, by omega, fun q h => by omega, .inl ⟨rfl, by rintro (⟨q, j, _, h, _⟩ | ⟨q, h, _⟩) <;> omega⟩, rfl⟩
  case round =>
    obtain ⟨i, m0, rfl, hi, hno, hev, rfl⟩ := hrel
    by_cases hlt : i < L.length
    · have hI : (i : Int) < L.length := by omega
      obtain ⟨b, off, rfl, hb1, hb3⟩ := HA.out (by omega)
      have HC : Hid (∀ m k, k < L.length → (w.drewN m).cell? ⟨b, off + k * 33, none⟩ = some (.int .u8 ((XP L k).toNat : Int))) := Lib.hid fun m k hk => hb3 k 0 hk (by decide)
      have c1 := HC.out m0 i hlt
      by_cases h0 : XP L i = 0
      · have e1 : (((XP L i).toNat : Int) == 0) = true := by rw [h0]; rfl
        have HP : Hid (placesB L = 1) := Lib.hid (by
          rcases placesB_cases L with h | h | h
          · exact h.1
          · exact absurd ⟨i, hlt, h0⟩ h.2.1
          · exact absurd ⟨i, hlt, h0⟩ h.2.1)
        clear hb3 hev hno hlt hi h0
        go_wp2_with (fail)
        go_ret
        exact ⟨by rw [HP.out]; rfl, m0, rfl⟩
      · have e1 : (((XP L i).toNat : Int) == 0) = false := by
          rw [beq_eq_false_iff_ne]
          exact fun h => h0 (UInt8.toNat_inj.1 (by rw [show ((0 : UInt8).toNat) = 0 from rfl]; omega))
        have HNO : Hid (∀ q, q < i + 1 → XP L q ≠ 0) := Lib.hid fun q hq => by
          by_cases e : q = i
          · rw [e]; exact h0
          · exact hno q (by omega)
        have HEV := Lib.hid hev
        have HL := Lib.hid hlt
        clear hb3 hev hno hlt hi h0
        go_wp2_with (fail)
        refine ply_loop _ _ _ _ _ _ _ _ _ _ _ _ _ _ _ _ _ _ _ _ _ _ _ _ _ _ _ _ _ _ _ L L.length i b off c _ (w.drewN m0) HL.out HN.out (Lib.hid fun m k hk => by rw [World.drewN_drewN]; exact HC.out _ k hk) HEV (Lib.hid ?_)
        intro u5 u18 u19 u20 u21 u22 u23 u24 u25 u26 u27 u28 u29 u30 u31 u32 u33 ev' m HE2
        go_wp2_with (fail)
        have hl := HL.out
        refine ⟨⟨i + 1, _, by go_num, by omega, HNO.out, HE2.out, rfl⟩, by simp [intOf]; omega⟩
    · obtain rfl : i = L.length := by omega
      have hev2 := hev.iff (twTo_all L)
      have hz : ¬ NoughtIn L := fun ⟨q, h1, h2⟩ => hno q h1 h2
      rcases hev2 with ⟨rfl, hd⟩ | ⟨rfl, hd⟩
      · have HP : Hid (placesB L = 0) := Lib.hid (by
          rcases placesB_cases L with h | h | h
          · exact absurd h.2 hz
          · exact absurd h.2.2 hd
          · exact h.1)
        clear hev hno hz hd
        go_wp2_with (fail)
        go_ret
        exact ⟨by rw [HP.out]; rfl, m0, rfl⟩
      · have HP : Hid (placesB L = 7) := Lib.hid (by
          rcases placesB_cases L with h | h | h
          · exact absurd h.2 hz
          · exact h.1
          · exact absurd hd h.2.2)
        clear hev hno hz hd
        go_wp2_with (fail)
        go_ret
        exact ⟨by rw [HP.out]; rfl, m0, rfl⟩
end Go.Proofs.Ytpegnafapjcanaa
