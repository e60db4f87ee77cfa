/- The loop of 'ShamirHides' (law 8): the other draws. Conditions: three keys in blocks of their own. -/
import Derived.Test.YtpegnafapjcanaaShamC
import Derived.Test.YtpegnafapjcanaaSRefD
import Derived.Test.YtpegnafapjcanaaPutC
namespace Go.Proofs.Ytpegnafapjcanaa.shamirHides
open Go.RowKit

def otherB (a b c : List UInt8) (x : UInt8) : List UInt8 := (List.range 32).map fun k => gm (a.getD k 0 ^^^ b.getD k 0) (gi x) ^^^ c.getD k 0
theorem otherB_length (a b c : List UInt8) (x : UInt8) : (otherB a b c x).length = 32 := by simp [otherB]
theorem otherB_get (a b c : List UInt8) (x : UInt8) {k : Nat} (hk : k < 32) : (otherB a b c x).getD k 0 = gm (a.getD k 0 ^^^ b.getD k 0) (gi x) ^^^ c.getD k 0 := range_getD _ _ hk
theorem blk_at {w : World} {B : Nat} {t : TypeId} {xs : List UInt8} (h : Blk w B t (xs.map bv)) (hl : xs.length = 32) {k : Nat} (hk : k < 32) : w.cell? ⟨B, k, none⟩ = some (.int .u8 ((xs.getD k 0).toNat : Int)) := by
  rw [h.cell, List.getElem?_map, List.getElem?_eq_getElem (by omega), List.getD, List.getElem?_eq_getElem (by omega)]
  rfl
def HidRel (ot : List UInt8) (O : Nat) (w : World) (v : Value) (W : World) : Prop := ∃ i : Nat, v = .int .i64 (i : Int) ∧ i ≤ 32 ∧ Blk W O 22 (putC 32 ot i) ∧ Sole w W O
noncomputable def body_hid : Code := (((Try.f6.body.map loopsOf).getD [])[0]?).getD .skip
set_option maxRecDepth 100000 in
set_option maxHeartbeats 2000000 in
theorem hid_loop (c0 c1 c2 c3 c7 c8 c9 c10 c11 c12 c16 c17 c18 c19 c20 c21 c22 c23 c24 c25 c26 c27 c28 c29 c30 c31 c32 c33 c34 c35 c36 c37 c38 c39 c40 c41 c42 c43 c44 c45 c46 c47 c48 c49 c50 c51 c52 c53 c54 c55 c56 c57 c58 c59 c60 c61 c62 c63 c64 c65 c66 c67 c68 c69 c70 c71 c72 c73 c74 c75 c76 c77 c78 c79 c80 c81 c82 c83 c84 c85 c86 c87 c88 c89 c90 c91 c92 c93 c94 : Value) (a b c : List UInt8) (x : UInt8) (A B D O : Nat) (w : World) (ha : Hid (a.length = 32 ∧ b.length = 32 ∧ c.length = 32)) (hne : Hid (A ≠ O ∧ B ≠ O ∧ D ≠ O))
    (hA : Hid (Blk w A 23 (a.map bv))) (hB : Hid (Blk w B 23 (b.map bv))) (hD : Hid (Blk w D 23 (c.map bv))) (hO : Hid (Blk w O 22 (zeros32.map bv))) {Q : Exit → Act → World → Prop}
    (HQ : Hid (∀ (u15 u34 u35 u36 u37 u38 u39 u40 u41 u42 u43 u44 u45 u46 u47 u48 u49 u50 u51 u52 : Value) (wx : World), Hid (Blk wx O 22 ((otherB a b c x).map bv)) → Hid (Sole w wx O) → Q (.exit 0) ⟨List.toArray (c0 :: c1 :: c2 :: c3 :: (.pointer (some ⟨A, 0, none⟩)) :: (.pointer (some ⟨B, 0, none⟩)) :: (.pointer (some ⟨D, 0, none⟩)) :: c7 :: c8 :: c9 :: c10 :: c11 :: c12 :: (.pointer (some ⟨O, 0, none⟩)) :: (.int .u8 ((gi x).toNat : Int)) :: u15 :: c16 :: c17 :: c18 :: c19 :: c20 :: c21 :: c22 :: c23 :: c24 :: c25 :: c26 :: c27 :: c28 :: c29 :: c30 :: c31 :: c32 :: c33 :: u34 :: u35 :: u36 :: u37 :: u38 :: u39 :: u40 :: u41 :: u42 :: u43 :: u44 :: u45 :: u46 :: u47 :: u48 :: u49 :: u50 :: u51 :: u52 :: c53 :: c54 :: c55 :: c56 :: c57 :: c58 :: c59 :: c60 :: c61 :: c62 :: c63 :: c64 :: c65 :: c66 :: c67 :: c68 :: c69 :: c70 :: c71 :: c72 :: c73 :: c74 :: c75 :: c76 :: c77 :: c78 :: c79 :: c80 :: c81 :: c82 :: c83 :: c84 :: c85 :: c86 :: c87 :: c88 :: c89 :: c90 :: c91 :: c92 :: c93 :: c94 :: []), []⟩ wx)) :
    (Code.loop body_hid).wp Try.prog Q ⟨List.toArray (c0 :: c1 :: c2 :: c3 :: (.pointer (some ⟨A, 0, none⟩)) :: (.pointer (some ⟨B, 0, none⟩)) :: (.pointer (some ⟨D, 0, none⟩)) :: c7 :: c8 :: c9 :: c10 :: c11 :: c12 :: (.pointer (some ⟨O, 0, none⟩)) :: (.int .u8 ((gi x).toNat : Int)) :: (.int .i64 0) :: c16 :: c17 :: c18 :: c19 :: c20 :: c21 :: c22 :: c23 :: c24 :: c25 :: c26 :: c27 :: c28 :: c29 :: c30 :: c31 :: c32 :: c33 :: c34 :: c35 :: c36 :: c37 :: c38 :: c39 :: c40 :: c41 :: c42 :: c43 :: c44 :: c45 :: c46 :: c47 :: c48 :: c49 :: c50 :: c51 :: c52 :: c53 :: c54 :: c55 :: c56 :: c57 :: c58 :: c59 :: c60 :: c61 :: c62 :: c63 :: c64 :: c65 :: c66 :: c67 :: c68 :: c69 :: c70 :: c71 :: c72 :: c73 :: c74 :: c75 :: c76 :: c77 :: c78 :: c79 :: c80 :: c81 :: c82 :: c83 :: c84 :: c85 :: c86 :: c87 :: c88 :: c89 :: c90 :: c91 :: c92 :: c93 :: c94 :: []), []⟩ w := by
  obtain ⟨ot, hot⟩ : ∃ ot, ot = otherB a b c x := ⟨_, rfl⟩
  have HOL : Hid (ot.length = 32) := Lib.hid (by rw [hot, otherB_length])
  have HOG : Hid (∀ k, k < 32 → ot[k]? = some (gm (a.getD k 0 ^^^ b.getD k 0) (gi x) ^^^ c.getD k 0)) := Lib.hid fun k hk => by
    have h := otherB_get a b c x hk
    rw [← hot, List.getD, List.getElem?_eq_getElem (by rw [HOL.out]; exact hk)] at h
    rw [List.getElem?_eq_getElem (by rw [HOL.out]; exact hk)]
    exact congrArg some h
  have HP0 : Hid (zeros32.map bv = putC 32 ot 0) := Lib.hid (by unfold putC zeros32; simp [bv])
  have HPE : Hid (putC 32 ot 32 = ot.map bv) := Lib.hid (by
    unfold putC
    rw [List.take_of_length_le (by rw [HOL.out]; omega)]
    simp)
  rw [HP0.out] at hO
  rw [← hot] at HQ
  clear hot
  unfold body_hid
  conv => arg 2; arg 1; whnf
  go_loopw [15] (fun v wx => HidRel ot O w v wx) (fun v _ => 32 - (intOf v).toNat)
  case atStart => exact ⟨0, rfl, by omega, hO.out, Sole.refl _ _⟩
  case round =>
    obtain ⟨i, rfl, hi, hblk, so⟩ := hrel
    by_cases hlt : i < 32
    · have hI : (i : Int) < 32 := by omega
      obtain ⟨y1, h1⟩ : ∃ y, y = a.getD i 0 := ⟨_, rfl⟩
      obtain ⟨y2, h2⟩ : ∃ y, y = b.getD i 0 := ⟨_, rfl⟩
      obtain ⟨y3, h3⟩ : ∃ y, y = c.getD i 0 := ⟨_, rfl⟩
      obtain ⟨g, hg⟩ : ∃ g, g = gi x := ⟨_, rfl⟩
      have cA : wr.cell? ⟨A, i, none⟩ = some (.int .u8 (y1.toNat : Int)) := by rw [h1]; exact blk_at (so.blk hA.out hne.out.1) ha.out.1 hlt
      have cB : wr.cell? ⟨B, i, none⟩ = some (.int .u8 (y2.toNat : Int)) := by rw [h2]; exact blk_at (so.blk hB.out hne.out.2.1) ha.out.2.1 hlt
      have cD : wr.cell? ⟨D, i, none⟩ = some (.int .u8 (y3.toNat : Int)) := by rw [h3]; exact blk_at (so.blk hD.out hne.out.2.2) ha.out.2.2 hlt
      have HN : Hid (ot[i]? = some (gm (y1 ^^^ y2) g ^^^ y3)) := Lib.hid (by rw [HOG.out i hlt, h1, h2, h3, hg])
      have HS := Lib.hid (fun nq => (hblk.drewN nq).set i (bv (gm (y1 ^^^ y2) g ^^^ y3)))
      have HST : Hid (∀ nq, Blk ((wr.drewN nq).setCell ⟨O, i, none⟩ (.int .u8 ((gm (y1 ^^^ y2) g ^^^ y3).toNat : Int))) O 22 (putC 32 ot (i + 1))) := Lib.hid fun nq => by
        have h := HS.out nq
        rw [putC_set hlt HN.out] at h
        exact h
      have HSO : Hid (∀ nq, Sole w ((wr.drewN nq).setCell ⟨O, i, none⟩ (.int .u8 ((gm (y1 ^^^ y2) g ^^^ y3).toNat : Int))) O) := Lib.hid fun nq => so.trans (sole_set_drewN wr O i nq _)
      have f6 : ∀ nq, (wr.drewN nq).frozen? ⟨O, i, none⟩ = false := fun nq => (hblk.drewN nq).free i
      obtain ⟨u, hu⟩ : ∃ u, ∀ nq, (wr.drewN nq).cell? ⟨O, i, none⟩ = some u := by
        refine ⟨(putC 32 ot i)[i]'?_, fun nq => ?_⟩
        · rw [putC_length (by omega) (by rw [HOL.out]; omega)]; omega
        · rw [(hblk.drewN nq).cell i]; exact List.getElem?_eq_getElem _
      have M1 := Lib.hid (fun W => refGm (y1 ^^^ y2) g W)
      have x1 := bx_u8 y1 y2
      have x2 := bx_u8 (gm (y1 ^^^ y2) g) y3
      rw [← hg]
      have HG := Lib.hid hg
      have HLT := Lib.hid hlt
      clear h1 h2 h3 hg hblk so hi hlt HS
      go_wp2_with (fail)
      refine wp_quiet_tail 15 (by kernel_rfl) (by kernel_rfl) (by kernel_rfl) (by kernel_rfl) (by kernel_rfl) (by kernel_rfl) (by kernel_rfl) (by kernel_rfl) ?_
      simp only [List.take_succ_cons, List.take_zero, List.drop_succ_cons, List.drop_zero]
      repeat (go_big_quiet_step ((go_at_call 18; exact Calls.quiet_of_same (M1.out _))))
      refine wpQuiet_nil ?_
      intro wq hwq
      obtain ⟨nq, rfl⟩ := hwq
      go_wp2_with (fail)
      have hlt := HLT.out
      refine ⟨⟨i + 1, by go_num, by omega, HST.out nq, HSO.out nq⟩, by simp [intOf]; omega⟩
    · obtain rfl : i = 32 := by omega
      have HB : Hid (Blk wr O 22 (ot.map bv)) := Lib.hid (by rw [← HPE.out]; exact hblk)
      have HL := Lib.hid so
      clear hblk so hi hlt
      go_wp2_with (fail)
      exact HQ.out _ _ _ _ _ _ _ _ _ _ _ _ _ _ _ _ _ _ _ _ _ HB HL
end Go.Proofs.Ytpegnafapjcanaa.shamirHides
