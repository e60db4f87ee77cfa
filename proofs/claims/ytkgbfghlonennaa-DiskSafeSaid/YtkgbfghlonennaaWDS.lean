/- DiskSafe: its loop, and the walk, over contracts of the developers' disk. Premises: the contracts. -/
import Derived.Test.YtkgbfghlonennaaDSafe
namespace Go.Proofs.Ytkgbfghlonennaa
open Go.RowKit

/-- A disk by itself, all its blocks new since base. -/
def Solo (DC : DiskC) (base : Nat) (W : World) (p : Value) (S : DS) : Prop := ∃ F, DC.Is W p S F ∧ ∀ k, F k → base ≤ k
theorem Solo.on {DC : DiskC} {base : Nat} {W W' : World} {p : Value} {S : DS} (h : Solo DC base W p S) (hb : Below W.heap.size W W') : Solo DC base W' p S := by
  obtain ⟨F, h1, h2⟩ := h
  exact ⟨F, DC.other h1 (chg_none hb) fun _ _ h => h, h2⟩
theorem DLeft.solo {DC : DiskC} {base : Nat} {W W' : World} {p : Value} {S : DS} {F : Nat → Prop} (h : DLeft DC.Is W W' p S F) (hF : ∀ k, F k → base ≤ k) (hb : base ≤ W.heap.size) : Solo DC base W' p S ∧ Below base W W' := by
  obtain ⟨⟨F', h1, h2⟩, h3⟩ := h
  exact ⟨⟨F', h1, fun k hk => (h2 k hk).elim (hF k) fun h => Nat.le_trans hb h⟩, h3.below hF hb⟩
namespace diskSafe

def DsfRel (DC : DiskC) (L : List ActV) (x : List UInt8) (w0 : World) (p : Value) (v : Value) (W : World) : Prop := ∃ (i : Nat) (S : DS), v = .int .i64 (i : Int) ∧ i ≤ L.length ∧ i ≤ 50 ∧ S.ops ≤ i + 2 ∧ SafeAt S 7 x ∧ Solo DC w0.heap.size W p S ∧ Below w0.heap.size w0 W
noncomputable def body_dsf : Code := (((Try.f4.body.map loopsOf).getD [])[0]?).getD .skip
set_option maxRecDepth 100000 in
set_option maxHeartbeats 4000000 in
theorem dsf_loop (c1 c2 c3 c4 c5 c6 c7 c8 c11 c12 c13 c14 c15 c16 c17 c18 c19 c20 c21 c22 c23 c24 c25 c26 c27 c28 c29 c30 c31 c32 c33 c34 c35 c36 c37 c38 c39 c40 c41 c42 c43 c44 c45 c46 c47 c48 c49 c50 c51 c52 c53 c54 c55 c56 c57 c58 c59 c60 c61 c62 c63 c64 c65 c66 c67 c68 c69 c70 c71 c72 c73 c74 c75 c76 c77 c78 c79 c80 c81 c82 c83 c84 c85 c86 c87 c88 c89 c90 c91 c92 c93 c94 c95 c96 c97 c98 c99 c100 c101 c102 c103 c104 c105 c106 c107 c108 c109 c110 c111 c112 c113 c114 c115 c116 c117 c118 c119 c120 c121 c122 c123 c124 c125 c126 c127 c128 c129 c130 c131 : Value) (DC : DiskC) (A : Option Addr) (c : Nat) (L : List ActV) (x : List UInt8) (w0 w : World) (p : Value) (hL : Hid (Acts w0 (.slice A L.length c) L)) (hg : Hid (∀ i, i < L.length → i < 50 → (L.getD i act0).bs.length ≤ 300)) (h0 : Hid (DsfRel DC L x w0 p (.int .i64 0) w)) {Q : Exit → Act → World → Prop}
    (HQ : Hid (∀ (u43 u44 u45 u46 u47 u48 u49 u50 u51 u52 u53 u54 u55 u56 u57 u58 u59 u60 u61 u62 u63 u64 u65 u66 v : Value) (S : DS) (wx : World), Hid (S.ops ≤ 52) → Hid (SafeAt S 7 x) → Hid (Solo DC w0.heap.size wx p S) → Hid (Below w0.heap.size w0 wx) → Q (.exit 0) ⟨List.toArray ((.slice A L.length c) :: c1 :: c2 :: c3 :: c4 :: c5 :: c6 :: c7 :: c8 :: p :: v :: c11 :: c12 :: c13 :: c14 :: c15 :: c16 :: c17 :: c18 :: c19 :: c20 :: c21 :: c22 :: c23 :: c24 :: c25 :: c26 :: c27 :: c28 :: c29 :: c30 :: c31 :: c32 :: c33 :: c34 :: c35 :: c36 :: c37 :: c38 :: c39 :: c40 :: c41 :: c42 :: u43 :: u44 :: u45 :: u46 :: u47 :: u48 :: u49 :: u50 :: u51 :: u52 :: u53 :: u54 :: u55 :: u56 :: u57 :: u58 :: u59 :: u60 :: u61 :: u62 :: u63 :: u64 :: u65 :: u66 :: c67 :: c68 :: c69 :: c70 :: c71 :: c72 :: c73 :: c74 :: c75 :: c76 :: c77 :: c78 :: c79 :: c80 :: c81 :: c82 :: c83 :: c84 :: c85 :: c86 :: c87 :: c88 :: c89 :: c90 :: c91 :: c92 :: c93 :: c94 :: c95 :: c96 :: c97 :: c98 :: c99 :: c100 :: c101 :: c102 :: c103 :: c104 :: c105 :: c106 :: c107 :: c108 :: c109 :: c110 :: c111 :: c112 :: c113 :: c114 :: c115 :: c116 :: c117 :: c118 :: c119 :: c120 :: c121 :: c122 :: c123 :: c124 :: c125 :: c126 :: c127 :: c128 :: c129 :: c130 :: c131 :: []), []⟩ wx)) :
    (Code.loop body_dsf).wp Try.prog Q ⟨List.toArray ((.slice A L.length c) :: c1 :: c2 :: c3 :: c4 :: c5 :: c6 :: c7 :: c8 :: p :: (.int .i64 0) :: c11 :: c12 :: c13 :: c14 :: c15 :: c16 :: c17 :: c18 :: c19 :: c20 :: c21 :: c22 :: c23 :: c24 :: c25 :: c26 :: c27 :: c28 :: c29 :: c30 :: c31 :: c32 :: c33 :: c34 :: c35 :: c36 :: c37 :: c38 :: c39 :: c40 :: c41 :: c42 :: c43 :: c44 :: c45 :: c46 :: c47 :: c48 :: c49 :: c50 :: c51 :: c52 :: c53 :: c54 :: c55 :: c56 :: c57 :: c58 :: c59 :: c60 :: c61 :: c62 :: c63 :: c64 :: c65 :: c66 :: c67 :: c68 :: c69 :: c70 :: c71 :: c72 :: c73 :: c74 :: c75 :: c76 :: c77 :: c78 :: c79 :: c80 :: c81 :: c82 :: c83 :: c84 :: c85 :: c86 :: c87 :: c88 :: c89 :: c90 :: c91 :: c92 :: c93 :: c94 :: c95 :: c96 :: c97 :: c98 :: c99 :: c100 :: c101 :: c102 :: c103 :: c104 :: c105 :: c106 :: c107 :: c108 :: c109 :: c110 :: c111 :: c112 :: c113 :: c114 :: c115 :: c116 :: c117 :: c118 :: c119 :: c120 :: c121 :: c122 :: c123 :: c124 :: c125 :: c126 :: c127 :: c128 :: c129 :: c130 :: c131 :: []), []⟩ w := by
  obtain ⟨_, _, he, hm, hA⟩ := hL.out.form
  simp only [Value.slice.injEq] at he
  obtain ⟨rfl, -, -⟩ := he
  unfold maxLen at hm
  have nI : (L.length : Int) ≤ 9223372036854775807 := by omega
  have HA := Lib.hid hA
  clear hA
  unfold body_dsf
  conv => arg 2; arg 1; whnf
  go_loopw [10] (fun v wx => DsfRel DC L x w0 p v wx) (fun v _ => 50 - (intOf v).toNat)
  case atStart => exact h0.out
  case round =>
    obtain ⟨i, S, rfl, hi, h50, hops, hsf, hal, hbl⟩ := hrel
    have HAL := Lib.hid hal
    have HBL := Lib.hid hbl
    have HOP := Lib.hid hops
    have HSF := Lib.hid hsf
    by_cases hlt : i < L.length
    · have hI : (i : Int) < L.length := by omega
      by_cases hl2 : i < 50
      · have hI2 : (i : Int) < 50 := by omega
        obtain ⟨b, off, rfl, hb1, hb3⟩ := HA.out (by omega)
        obtain ⟨a, ha⟩ : ∃ a, a = L.getD i act0 := ⟨_, rfl⟩
        have HG : Hid (a.bs.length ≤ 300) := Lib.hid (by rw [ha]; exact hg.out i hlt hl2)
        have hat0 : ActAt w0 b (off + i * 3) a := by rw [ha]; exact hb3 i hlt
        obtain ⟨u, g0, g1, g2, g3⟩ := hat0
        have HU := Lib.hid g3
        have HC : Hid (∀ W, Below w0.heap.size w0 W → W.cell? ⟨b, off + i * 3, none⟩ = some (.int .i64 a.kind) ∧ W.cell? ⟨b, off + i * 3 + 1, none⟩ = some (.int .i64 a.plc) ∧ W.cell? ⟨b, off + i * 3 + 2, none⟩ = some u) := Lib.hid fun W hW => ⟨(hW.cell (p := ⟨b, off + i * 3, none⟩) hb1).trans g0, (hW.cell (p := ⟨b, off + i * 3 + 1, none⟩) hb1).trans g1, (hW.cell (p := ⟨b, off + i * 3 + 2, none⟩) hb1).trans g2⟩
        have HI := Lib.hid hlt
        have HI2 := Lib.hid hl2
        clear g0 g1 g2 g3 ha hb1 hb3 hal hbl hops hsf hi h50 hlt hl2
        by_cases h7 : a.plc = 7
        · have e7 : (a.plc == 7) = true := by rw [h7]; rfl
          obtain ⟨c0, c1, c2⟩ := HC.out wr HBL.out
          have HO3 : Hid (S.ops ≤ i + 1 + 2) := Lib.hid (by have := HOP.out; omega)
          clear h7
          go_wp2_with (fail)
          have x1 := HI.out
          have x2 := HI2.out
          refine ⟨⟨i + 1, S, by go_num, by omega, by omega, HO3.out, HSF.out, HAL.out, HBL.out⟩, by simp [intOf]; omega⟩
        · have e7 : (a.plc == 7) = false := by rw [beq_eq_false_iff_ne]; exact h7
          have H7 := Lib.hid h7
          obtain ⟨W1, hW1⟩ : ∃ W : World, W = wr.alloc (.cells #[.slice none 0 0, .int .i64 0, .bool false, .int .i64 0] 30) := ⟨_, rfl⟩
          have L1 : Below wr.heap.size wr W1 := by rw [hW1]; exact (Below.refl _ _).alloc (Nat.le_refl _) _
          have r1 : RefD W1 wr.heap.size newS fun k => k = wr.heap.size := by rw [hW1]; exact ref_new wr
          have HR1 := Lib.hid r1
          have HL1 := Lib.hid L1
          have BL1 := Lib.hid (HBL.out.trans (L1.mono HBL.out.size))
          obtain ⟨c0, c1, c2⟩ := HC.out wr HBL.out
          obtain ⟨d0, d1, d2⟩ := HC.out W1 BL1.out
          rw [hW1] at d0 d1 d2
          clear h7 L1 r1
          go_wp2_with (fail)
          rw [← hW1]
          clear hW1 d0 d1 d2
          obtain ⟨F, h1, h2⟩ := HAL.out
          refine (do_any DC (DC.other h1 (chg_none HL1.out) fun _ _ h => h) HR1.out (fun k hk e => by have := DC.lt h1 k hk; omega) a u (HU.out.below BL1.out) HG.out (fun hp j hj => ⟨rd_apart HU.out.rd h2 hp j hj, rd_apart HU.out.rd (F := fun k => k = wr.heap.size) (fun k e => by rw [e]; exact HBL.out.size) hp j hj⟩) (by have := HOP.out; have := HI2.out; omega) (by decide)).mono ?_
          rintro e w2 ⟨bb, rfl, _, m, F', G', k1, _, _, k4, _, k6⟩
          have HAL2 : Hid (Solo DC w0.heap.size w2 p (stepS S m a).1) := Lib.hid ⟨F', k1, fun k hk => (k4 k hk).elim (h2 k) fun h => Nat.le_trans BL1.out.size h⟩
          have BL2 : Hid (Below w0.heap.size w0 w2) := Lib.hid (BL1.out.trans (k6.below (fun k hk => hk.elim (h2 k) fun e => by rw [e]; exact HBL.out.size) BL1.out.size))
          have HSF2 := Lib.hid (HSF.out.step m a (by exact_mod_cast H7.out))
          have HO3 : Hid ((stepS S m a).1.ops ≤ i + 1 + 2) := Lib.hid (by have h := stepS_ops S m a; have := HOP.out; omega)
          clear h1 h2 k1 k4 k6 c0 c1 c2
          go_wp2_with (fail)
          have x1 := HI.out
          have x2 := HI2.out
          refine ⟨⟨i + 1, _, by go_num, by omega, by omega, HO3.out, HSF2.out, HAL2.out, BL2.out⟩, by simp [intOf]; omega⟩
      · have hI2 : ¬ (i : Int) < 50 := by omega
        have HO52 : Hid (S.ops ≤ 52) := Lib.hid (by omega)
        clear hal hbl hops hsf hi h50 hlt hl2
        go_wp2_with (fail)
        exact HQ.out _ _ _ _ _ _ _ _ _ _ _ _ _ _ _ _ _ _ _ _ _ _ _ _ _ S _ HO52 HSF HAL HBL
    · have hI : ¬ (i : Int) < L.length := by omega
      have HO52 : Hid (S.ops ≤ 52) := Lib.hid (by omega)
      clear hal hbl hops hsf hi h50 hlt
      go_wp2_with (fail)
      exact HQ.out _ _ _ _ _ _ _ _ _ _ _ _ _ _ _ _ _ _ _ _ _ _ _ _ _ S _ HO52 HSF HAL HBL
end Go.Proofs.Ytkgbfghlonennaa.diskSafe
