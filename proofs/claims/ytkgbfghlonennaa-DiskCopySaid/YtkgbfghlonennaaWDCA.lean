/- DiskCopy: its loops, over contracts of the developers' disk. Premises: the contracts. -/
import Derived.Test.YtkgbfghlonennaaPart17
import Derived.Test.YtkgbfghlonennaaDCopyR
namespace Go.Proofs.Ytkgbfghlonennaa.diskCopy
open Go.RowKit

/-- A disk and the reference's (S), and two copies that have gone on (T). -/
def Pairs (DC : DiskC) (base : Nat) (W : World) (p : Value) (X : Nat) (S : DS) (q : Value) (Y : Nat) (T : DS) : Prop := ∃ F G Fc Gy Oy, DC.Is W p S F ∧ RefD W X S G ∧ DC.Is W q T Fc ∧ RefO W Y T Gy Oy ∧ (∀ k, Fc k → ¬ Gy k) ∧ (∀ k, Fc k ∨ Oy k → ¬ F k ∧ ¬ G k) ∧ (∀ k, F k ∨ G k ∨ Fc k ∨ Gy k → base ≤ k)
theorem Pairs.on {DC : DiskC} {base : Nat} {W W' : World} {p : Value} {X : Nat} {S : DS} {q : Value} {Y : Nat} {T : DS} (h : Pairs DC base W p X S q Y T) (hb : Below W.heap.size W W') : Pairs DC base W' p X S q Y T := by
  obtain ⟨F, G, Fc, Gy, Oy, h1, h2, h3, h4, h5⟩ := h
  exact ⟨F, G, Fc, Gy, Oy, DC.other h1 (chg_none hb) fun _ _ h => h, h2.other (chg_none hb) fun _ _ h => h, DC.other h3 (chg_none hb) fun _ _ h => h, h4.other (chg_none hb) fun _ _ h => h, h5⟩
def DcaRel (DC : DiskC) (L : List ActV) (w0 : World) (p : Value) (X : Nat) (v : Value) (W : World) : Prop := ∃ (i : Nat) (S : DS), v = .int .i64 (i : Int) ∧ i ≤ L.length ∧ i ≤ 50 ∧ S.ops ≤ i ∧ Alike DC w0.heap.size W p X S ∧ Below w0.heap.size w0 W
noncomputable def body_dca : Code := (((Try.f5.body.map loopsOf).getD [])[0]?).getD .skip
set_option maxRecDepth 100000 in
set_option maxHeartbeats 4000000 in
theorem dca_loop (c1 c2 c3 c4 c5 c6 c10 c11 c12 c13 c14 c15 c16 c17 c18 c19 c20 c21 c22 c23 c24 c25 c26 c27 c28 c29 c30 c31 c32 c33 c34 c35 c36 c37 c38 c39 c40 c41 c42 c43 c44 c45 c46 c47 c48 c49 c50 c51 c52 c53 c54 c55 c56 c57 c58 c59 c60 c61 c62 c63 c64 c65 c66 c67 c68 c69 c70 c71 c72 c73 c74 c75 c76 c77 c78 c79 c80 c81 c82 c83 c84 c85 c86 c87 c88 c89 c90 c91 c92 c93 c94 c95 c96 : Value) (DC : DiskC) (A : Option Addr) (c : Nat) (L : List ActV) (w0 w : World) (p : Value) (X : Nat) (hL : Hid (Acts w0 (.slice A L.length c) L)) (hg : Hid (∀ i, i < L.length → i < 50 → (L.getD i act0).bs.length ≤ 300)) (h0 : Hid (DcaRel DC L w0 p X (.int .i64 0) w)) {Q : Exit → Act → World → Prop}
    (HQ : Hid (∀ (u23 u24 u25 u26 u27 u28 u29 u30 u31 u32 u33 u34 u35 u36 u37 u38 u39 v : Value) (S : DS) (wx : World), Hid (S.ops ≤ 50) → Hid (Alike DC w0.heap.size wx p X S) → Hid (Below w0.heap.size w0 wx) → Q (.exit 0) ⟨List.toArray ((.slice A L.length c) :: c1 :: c2 :: c3 :: c4 :: c5 :: c6 :: p :: (.pointer (some ⟨X, 0, none⟩)) :: v :: c10 :: c11 :: c12 :: c13 :: c14 :: c15 :: c16 :: c17 :: c18 :: c19 :: c20 :: c21 :: c22 :: u23 :: u24 :: u25 :: u26 :: u27 :: u28 :: u29 :: u30 :: u31 :: u32 :: u33 :: u34 :: u35 :: u36 :: u37 :: u38 :: u39 :: c40 :: c41 :: c42 :: c43 :: c44 :: c45 :: c46 :: c47 :: c48 :: c49 :: c50 :: c51 :: c52 :: c53 :: c54 :: c55 :: c56 :: c57 :: c58 :: c59 :: c60 :: c61 :: c62 :: c63 :: c64 :: c65 :: c66 :: c67 :: c68 :: c69 :: c70 :: c71 :: c72 :: c73 :: c74 :: c75 :: c76 :: c77 :: c78 :: c79 :: c80 :: c81 :: c82 :: c83 :: c84 :: c85 :: c86 :: c87 :: c88 :: c89 :: c90 :: c91 :: c92 :: c93 :: c94 :: c95 :: c96 :: []), []⟩ wx)) :
    (Code.loop body_dca).wp Try.prog Q ⟨List.toArray ((.slice A L.length c) :: c1 :: c2 :: c3 :: c4 :: c5 :: c6 :: p :: (.pointer (some ⟨X, 0, none⟩)) :: (.int .i64 0) :: c10 :: c11 :: c12 :: c13 :: c14 :: c15 :: c16 :: c17 :: c18 :: c19 :: c20 :: c21 :: c22 :: c23 :: c24 :: c25 :: c26 :: c27 :: c28 :: c29 :: c30 :: c31 :: c32 :: c33 :: c34 :: c35 :: c36 :: c37 :: c38 :: c39 :: c40 :: c41 :: c42 :: c43 :: c44 :: c45 :: c46 :: c47 :: c48 :: c49 :: c50 :: c51 :: c52 :: c53 :: c54 :: c55 :: c56 :: c57 :: c58 :: c59 :: c60 :: c61 :: c62 :: c63 :: c64 :: c65 :: c66 :: c67 :: c68 :: c69 :: c70 :: c71 :: c72 :: c73 :: c74 :: c75 :: c76 :: c77 :: c78 :: c79 :: c80 :: c81 :: c82 :: c83 :: c84 :: c85 :: c86 :: c87 :: c88 :: c89 :: c90 :: c91 :: c92 :: c93 :: c94 :: c95 :: c96 :: []), []⟩ w := by
  obtain ⟨_, _, he, hm, hA⟩ := hL.out.form
  simp only [Value.slice.injEq] at he
  obtain ⟨rfl, -, -⟩ := he
  unfold maxLen at hm
  have nI : (L.length : Int) ≤ 9223372036854775807 := by omega
  have HA := Lib.hid hA
  clear hA
  unfold body_dca
  conv => arg 2; arg 1; whnf
  go_loopw [9] (fun v wx => DcaRel DC L w0 p X v wx) (fun v _ => 50 - (intOf v).toNat)
  case atStart => exact h0.out
  case round =>
    obtain ⟨i, S, rfl, hi, h50, hops, hal, hbl⟩ := hrel
    have HAL := Lib.hid hal
    have HBL := Lib.hid hbl
    have HOP := Lib.hid hops
    by_cases hlt : i < L.length
    · have hI : (i : Int) < L.length := by omega
      by_cases hl2 : i < 50
      · have hI2 : (i : Int) < 50 := by omega
        obtain ⟨b, off, rfl, hb1, hb3⟩ := HA.out (by omega)
        obtain ⟨a, ha⟩ : ∃ a, a = L.getD i act0 := ⟨_, rfl⟩
        have HG : Hid (a.bs.length ≤ 300) := Lib.hid (by rw [ha]; exact hg.out i hlt hl2)
        have hat0 : ActAt w0 b (off + i * 3) a := by rw [ha]; exact hb3 i hlt
        obtain ⟨u, g0, g1, g2, g3⟩ := hat0
        have HU := Lib.hid g3
        have c0 := (hbl.cell (p := ⟨b, off + i * 3, none⟩) hb1).trans g0
        have c1 := (hbl.cell (p := ⟨b, off + i * 3 + 1, none⟩) hb1).trans g1
        have c2 := (hbl.cell (p := ⟨b, off + i * 3 + 2, none⟩) hb1).trans g2
        have HI := Lib.hid hlt
        have HI2 := Lib.hid hl2
        clear g0 g1 g2 g3 ha hb1 hb3 hal hbl hops hi h50 hlt hl2
        go_wp2_with (fail)
        obtain ⟨F, G, h1, h2, h3, h4, h5⟩ := HAL.out
        refine (do_any DC h1 h2 h3 a u (HU.out.below HBL.out) HG.out (fun hp j hj => ⟨rd_apart HU.out.rd h4 hp j hj, rd_apart HU.out.rd h5 hp j hj⟩) (by have := HOP.out; have := HI2.out; omega) (by have := HOP.out; have := HI2.out; omega)).mono ?_
        rintro e w1 ⟨bb, rfl, _, m, hleft⟩
        have hS := hleft.alike h4 h5 HBL.out.size
        have HAL1 := Lib.hid hS.1
        have HBL1 := Lib.hid (HBL.out.trans hS.2)
        have HOP1 : Hid ((stepS S m a).1.ops ≤ i + 1) := Lib.hid (Nat.le_trans (stepS_ops S m a) (Nat.succ_le_succ HOP.out))
        clear h1 h2 h3 h4 h5 hleft hS c0 c1 c2 HAL
        go_wp2_with (fail)
        have x1 := HI.out
        have x2 := HI2.out
        refine ⟨⟨i + 1, _, by go_num, by omega, by omega, HOP1.out, HAL1.out, HBL1.out⟩, by simp [intOf]; omega⟩
      · have hI2 : ¬ (i : Int) < 50 := by omega
        have HO50 : Hid (S.ops ≤ 50) := Lib.hid (by omega)
        clear hal hbl hops hi h50 hlt hl2
        go_wp2_with (fail)
        exact HQ.out _ _ _ _ _ _ _ _ _ _ _ _ _ _ _ _ _ _ S _ HO50 HAL HBL
    · have hI : ¬ (i : Int) < L.length := by omega
      have HO50 : Hid (S.ops ≤ 50) := Lib.hid (by omega)
      clear hal hbl hops hi h50 hlt
      go_wp2_with (fail)
      exact HQ.out _ _ _ _ _ _ _ _ _ _ _ _ _ _ _ _ _ _ S _ HO50 HAL HBL
def DcbRel (DC : DiskC) (L : List ActV) (w0 : World) (p : Value) (X : Nat) (S : DS) (q : Value) (Y : Nat) (v : Value) (W : World) : Prop := ∃ (i : Nat) (T : DS), v = .int .i64 (i : Int) ∧ i ≤ L.length ∧ i ≤ 50 ∧ T.ops ≤ 50 + i ∧ Pairs DC w0.heap.size W p X S q Y T ∧ Below w0.heap.size w0 W
noncomputable def body_dcb : Code := (((Try.f5.body.map loopsOf).getD [])[1]?).getD .skip
set_option maxRecDepth 100000 in
set_option maxHeartbeats 4000000 in
theorem dcb_loop (c0 c2 c3 c4 c5 c6 c9 c13 c14 c15 c16 c17 c18 c19 c20 c21 c22 c23 c24 c25 c26 c27 c28 c29 c30 c31 c32 c33 c34 c35 c36 c37 c38 c39 c40 c41 c42 c43 c44 c45 c46 c47 c48 c49 c50 c51 c52 c53 c54 c55 c56 c57 c58 c59 c60 c61 c62 c63 c64 c65 c66 c67 c68 c69 c70 c71 c72 c73 c74 c75 c76 c77 c78 c79 c80 c81 c82 c83 c84 c85 c86 c87 c88 c89 c90 c91 c92 c93 c94 c95 c96 : Value) (DC : DiskC) (A : Option Addr) (c : Nat) (L : List ActV) (w0 w : World) (p : Value) (X : Nat) (S : DS) (q : Value) (Y : Nat) (hL : Hid (Acts w0 (.slice A L.length c) L)) (hg : Hid (∀ i, i < L.length → i < 50 → (L.getD i act0).bs.length ≤ 300)) (h0 : Hid (DcbRel DC L w0 p X S q Y (.int .i64 0) w)) {Q : Exit → Act → World → Prop}
    (HQ : Hid (∀ (u6 u44 u45 u46 u47 u48 u49 u50 u51 u52 u53 u54 u55 u56 u57 u58 u59 u60 u61 u62 u63 u64 u65 u66 u67 u68 u69 u70 u71 u72 u73 u74 u75 u76 u77 u78 u79 u80 u81 u82 u83 v : Value) (T : DS) (wx : World), Hid (Pairs DC w0.heap.size wx p X S q Y T) → Hid (Below w0.heap.size w0 wx) → Q (.exit 2) ⟨List.toArray (c0 :: (.slice A L.length c) :: c2 :: c3 :: c4 :: c5 :: u6 :: p :: (.pointer (some ⟨X, 0, none⟩)) :: c9 :: q :: (.pointer (some ⟨Y, 0, none⟩)) :: v :: c13 :: c14 :: c15 :: c16 :: c17 :: c18 :: c19 :: c20 :: c21 :: c22 :: c23 :: c24 :: c25 :: c26 :: c27 :: c28 :: c29 :: c30 :: c31 :: c32 :: c33 :: c34 :: c35 :: c36 :: c37 :: c38 :: c39 :: c40 :: c41 :: c42 :: c43 :: u44 :: u45 :: u46 :: u47 :: u48 :: u49 :: u50 :: u51 :: u52 :: u53 :: u54 :: u55 :: u56 :: u57 :: u58 :: u59 :: u60 :: u61 :: u62 :: u63 :: u64 :: u65 :: u66 :: u67 :: u68 :: u69 :: u70 :: u71 :: u72 :: u73 :: u74 :: u75 :: u76 :: u77 :: u78 :: u79 :: u80 :: u81 :: u82 :: u83 :: c84 :: c85 :: c86 :: c87 :: c88 :: c89 :: c90 :: c91 :: c92 :: c93 :: c94 :: c95 :: c96 :: []), []⟩ wx)) :
    (Code.loop body_dcb).wp Try.prog Q ⟨List.toArray (c0 :: (.slice A L.length c) :: c2 :: c3 :: c4 :: c5 :: c6 :: p :: (.pointer (some ⟨X, 0, none⟩)) :: c9 :: q :: (.pointer (some ⟨Y, 0, none⟩)) :: (.int .i64 0) :: c13 :: c14 :: c15 :: c16 :: c17 :: c18 :: c19 :: c20 :: c21 :: c22 :: c23 :: c24 :: c25 :: c26 :: c27 :: c28 :: c29 :: c30 :: c31 :: c32 :: c33 :: c34 :: c35 :: c36 :: c37 :: c38 :: c39 :: c40 :: c41 :: c42 :: c43 :: c44 :: c45 :: c46 :: c47 :: c48 :: c49 :: c50 :: c51 :: c52 :: c53 :: c54 :: c55 :: c56 :: c57 :: c58 :: c59 :: c60 :: c61 :: c62 :: c63 :: c64 :: c65 :: c66 :: c67 :: c68 :: c69 :: c70 :: c71 :: c72 :: c73 :: c74 :: c75 :: c76 :: c77 :: c78 :: c79 :: c80 :: c81 :: c82 :: c83 :: c84 :: c85 :: c86 :: c87 :: c88 :: c89 :: c90 :: c91 :: c92 :: c93 :: c94 :: c95 :: c96 :: []), []⟩ w := by
  obtain ⟨_, _, he, hm, hA⟩ := hL.out.form
  simp only [Value.slice.injEq] at he
  obtain ⟨rfl, -, -⟩ := he
  unfold maxLen at hm
  have nI : (L.length : Int) ≤ 9223372036854775807 := by omega
  have HA := Lib.hid hA
  clear hA
  unfold body_dcb
  conv => arg 2; arg 1; whnf
  go_loopw [12] (fun v wx => DcbRel DC L w0 p X S q Y v wx) (fun v _ => 50 - (intOf v).toNat)
  case atStart => exact h0.out
  case round =>
    obtain ⟨i, T, rfl, hi, h50, hops, hal, hbl⟩ := hrel
    have HAL := Lib.hid hal
    have HBL := Lib.hid hbl
    have HOP := Lib.hid hops
    by_cases hlt : i < L.length
    · have hI : (i : Int) < L.length := by omega
      by_cases hl2 : i < 50
      · have hI2 : (i : Int) < 50 := by omega
        obtain ⟨b, off, rfl, hb1, hb3⟩ := HA.out (by omega)
        obtain ⟨a, ha⟩ : ∃ a, a = L.getD i act0 := ⟨_, rfl⟩
        have HG : Hid (a.bs.length ≤ 300) := Lib.hid (by rw [ha]; exact hg.out i hlt hl2)
        have hat0 : ActAt w0 b (off + i * 3) a := by rw [ha]; exact hb3 i hlt
        obtain ⟨u, g0, g1, g2, g3⟩ := hat0
        have HU := Lib.hid g3
        have HC : Hid (∀ W, Below w0.heap.size w0 W → W.cell? ⟨b, off + i * 3, none⟩ = some (.int .i64 a.kind) ∧ W.cell? ⟨b, off + i * 3 + 1, none⟩ = some (.int .i64 a.plc) ∧ W.cell? ⟨b, off + i * 3 + 2, none⟩ = some u) := Lib.hid fun W hW => ⟨(hW.cell (p := ⟨b, off + i * 3, none⟩) hb1).trans g0, (hW.cell (p := ⟨b, off + i * 3 + 1, none⟩) hb1).trans g1, (hW.cell (p := ⟨b, off + i * 3 + 2, none⟩) hb1).trans g2⟩
        have HI := Lib.hid hlt
        have HI2 := Lib.hid hl2
        clear g0 g1 g2 g3 ha hb1 hb3 hal hbl hops hi h50 hlt hl2
        obtain ⟨c0, c1, c2⟩ := HC.out wr HBL.out
        go_wp2_with (fail)
        obtain ⟨F, G, Fc, Gy, Oy, h1, h2, h3, h4, h5, h6, h7⟩ := HAL.out
        refine (do_anyO DC h3 h4 h5 a u (HU.out.below HBL.out) HG.out (fun hp j hj => ⟨rd_apart HU.out.rd (fun k hk => h7 k (.inr (.inr (.inl hk)))) hp j hj, rd_apart HU.out.rd (fun k hk => h7 k (.inr (.inr (.inr hk)))) hp j hj⟩) (by have := HOP.out; have := HI2.out; omega) (by have := HOP.out; have := HI2.out; omega)).mono ?_
        rintro e w1 ⟨bb, rfl, htrue, m, F', G', O', k1, k2, k3, k4, k5, k6, k7⟩
        obtain rfl : bb = true := htrue rfl
        have HAL1 : Hid (Pairs DC w0.heap.size w1 p X S q Y (stepS T m a).1) := Lib.hid (by
          have sz := HBL.out.size
          refine ⟨F, G, F', G', O', DC.other h1 k7 (fun k hk hh => (h6 k hh).1 hk), h2.other k7 (fun k hk hh => (h6 k hh).2 hk), k1, k2, k3, fun k hk => ?_, fun k hk => ?_⟩
          · have hn : (Fc k ∨ Oy k) ∨ wr.heap.size ≤ k := by
              rcases hk with hk | hk
              · exact (k4 k hk).imp .inl id
              · exact (k6 k hk).imp .inr id
            rcases hn with hn | hn
            · exact h6 k hn
            · exact ⟨fun e => by have := DC.lt h1 k e; omega, fun e => by have := h2.lt k e; omega⟩
          · rcases hk with hk | hk | hk | hk
            · exact h7 k (.inl hk)
            · exact h7 k (.inr (.inl hk))
            · rcases k4 k hk with hn | hn
              · exact h7 k (.inr (.inr (.inl hn)))
              · omega
            · rcases k5 k hk with hn | hn
              · exact h7 k (.inr (.inr (.inr hn)))
              · omega)
        have HBL1 : Hid (Below w0.heap.size w0 w1) := Lib.hid (HBL.out.trans (k7.below (fun k hk => hk.elim (fun h => h7 k (.inr (.inr (.inl h)))) fun h => h7 k (.inr (.inr (.inr (h4.sub k h))))) HBL.out.size))
        have HOP1 : Hid ((stepS T m a).1.ops ≤ 50 + (i + 1)) := Lib.hid (by have := stepS_ops T m a; have := HOP.out; omega)
        clear h1 h2 h3 h4 h5 h6 h7 k1 k2 k3 k4 k5 k6 k7 htrue c0 c1 c2 HAL
        obtain ⟨_, c1, _⟩ := HC.out w1 HBL1.out
        go_wp2_with (fail)
        obtain ⟨F, G, Fc, Gy, Oy, h1, h2, h3, h4, h5, h6, h7⟩ := HAL1.out
        refine (sameD_any DC h3 h4.d a.plc HU.out.wp).mono ?_
        rintro e w2 ⟨rfl, hb2⟩
        have HAL2 := Lib.hid (HAL1.out.on hb2)
        have HBL2 := Lib.hid (HBL1.out.trans (hb2.mono HBL1.out.size))
        clear h1 h2 h3 h4 h5 h6 h7 hb2 c1 HAL1
        obtain ⟨_, c1, _⟩ := HC.out w2 HBL2.out
        go_wp2_with (fail)
        obtain ⟨F, G, Fc, Gy, Oy, h1, h2, h3, h4, h5, h6, h7⟩ := HAL2.out
        refine (sameD_any DC h1 h2 a.plc HU.out.wp).mono ?_
        rintro e w3 ⟨rfl, hb3⟩
        have HAL3 := Lib.hid (HAL2.out.on hb3)
        have HBL3 := Lib.hid (HBL2.out.trans (hb3.mono HBL2.out.size))
        clear h1 h2 h3 h4 h5 h6 h7 hb3 c1 HAL2
        go_wp2_with (fail)
        have x1 := HI.out
        have x2 := HI2.out
        refine ⟨⟨i + 1, _, by go_num, by omega, by omega, HOP1.out, HAL3.out, HBL3.out⟩, by simp [intOf]; omega⟩
      · have hI2 : ¬ (i : Int) < 50 := by omega
        clear hal hbl hops hi h50 hlt hl2
        go_wp2_with (fail)
        exact HQ.out _ _ _ _ _ _ _ _ _ _ _ _ _ _ _ _ _ _ _ _ _ _ _ _ _ _ _ _ _ _ _ _ _ _ _ _ _ _ _ _ _ _ T _ HAL HBL
    · have hI : ¬ (i : Int) < L.length := by omega
      clear hal hbl hops hi h50 hlt
      go_wp2_with (fail)
      exact HQ.out _ _ _ _ _ _ _ _ _ _ _ _ _ _ _ _ _ _ _ _ _ _ _ _ _ _ _ _ _ _ _ _ _ _ _ _ _ _ _ _ _ _ T _ HAL HBL
set_option maxRecDepth 100000 in
set_option maxHeartbeats 4000000 in
theorem walkC (DC : DiskC) (v0 : Value) (L : List ActV) (v1 : Value) (M : List ActV) (at' : Int) (w : World) (hL : Acts w v0 L) (hM : Acts w v1 M) (hat : (Lit.int .i64 at').wf = true) : Calls Try.prog 5 #[v0, v1, .int .i64 at'] w fun e w' => e = .returned (.bool true) ∧ Below w.heap.size w w' := by
  have HG := Lib.hid (great_any v0 L w hL)
  have HG2 := Lib.hid (great_any v1 M w hM)
  obtain ⟨A, c, rfl, _, _⟩ := hL.form
  obtain ⟨A2, c2, rfl, _, _⟩ := hM.form
  have HL := Lib.hid hL
  have HM := Lib.hid hM
  have HAT := Lib.hid hat
  have AWK : Hid (∀ w0 : World, Calls Try.prog 8 #[] w0 fun e w' => e = .returned (.bool true) ∧ Below w0.heap.size w0 w') := Lib.hid (awakeD_any DC)
  clear hL hM hat
  go_enter Try.func5, Try.ntmps5
  go_wp2_with (fail)
  refine HG.out.mono ?_
  rintro e w0 ⟨b, rfl, rfl, hgr⟩
  cases b with
  | true =>
    clear hgr
    go_wp2_with (fail)
    refine (AWK.out w0).mono ?_
    rintro e w1 ⟨rfl, hb1⟩
    have B1 := Lib.hid hb1
    clear hb1
    go_wp2_with (fail)
    go_ret
    exact ⟨rfl, B1.out⟩
  | false =>
    have HGR := Lib.hid (hgr rfl)
    clear hgr
    go_wp2_with (fail)
    refine HG2.out.mono ?_
    rintro e w0 ⟨b, rfl, rfl, hgr⟩
    cases b with
    | true =>
      clear hgr
      go_wp2_with (fail)
      refine (AWK.out w0).mono ?_
      rintro e w1 ⟨rfl, hb1⟩
      have B1 := Lib.hid hb1
      clear hb1
      go_wp2_with (fail)
      go_ret
      exact ⟨rfl, B1.out⟩
    | false =>
      have HGM := Lib.hid (hgr rfl)
      clear hgr
      go_wp2_with (fail)
      refine (DC.new w0).mono ?_
      rintro e w1 ⟨p, rfl, ⟨F, h1, f1⟩, b1⟩
      obtain ⟨W2, hW2⟩ : ∃ W : World, W = w1.alloc (.cells #[.slice none 0 0, .int .i64 0, .bool false, .int .i64 0] 30) := ⟨_, rfl⟩
      have L2 : Below w1.heap.size w1 W2 := by rw [hW2]; exact (Below.refl _ _).alloc (Nat.le_refl _) _
      have r2 : RefD W2 w1.heap.size newS fun k => k = w1.heap.size := by rw [hW2]; exact ref_new w1
      have BL2 := Lib.hid (b1.trans (L2.mono b1.size))
      have AL2 : Hid (Alike DC w0.heap.size W2 p w1.heap.size newS) := Lib.hid ⟨F, _, DC.other h1 (chg_none L2) fun _ _ h => h, r2, fun k hk e => by have := DC.lt h1 k hk; omega, f1, fun k e => by rw [e]; exact b1.size⟩
      clear h1 f1 b1 L2 r2
      go_wp2_with (fail)
      rw [← hW2]
      clear hW2
      refine dca_loop _ _ _ _ _ _ _ _ _ _ _ _ _ _ _ _ _ _ _ _ _ _ _ _ _ _ _ _ _ _ _ _ _ _ _ _ _ _ _ _ _ _ _ _ _ _ _ _ _ _ _ _ _ _ _ _ _ _ _ _ _ _ _ _ _ _ _ _ _ _ _ _ _ _ _ _ _ _ _ _ _ _ _ _ _ _ _ _ _ _ _ _ _ DC A c L w0 W2 p w1.heap.size HL HGR (Lib.hid ⟨0, newS, rfl, Nat.zero_le _, Nat.zero_le _, Nat.le_refl _, AL2.out, BL2.out⟩) (Lib.hid ?_)
      intro u23 u24 u25 u26 u27 u28 u29 u30 u31 u32 u33 u34 u35 u36 u37 u38 u39 u9 S w3 HOP AL3 BL3
      clear AL2 BL2 HGR
      go_wp2_with (fail)
      obtain ⟨F, G, h1, h2, h3, h4, h5⟩ := AL3.out
      refine (DC.copy h1).mono ?_
      rintro e w4 ⟨q, rfl, ⟨Fc, hc, fc⟩, b4⟩
      have HF1 := Lib.hid (DC.other h1 (chg_none b4) fun _ _ h => h)
      obtain ⟨v, Q, hr⟩ := h2.other (chg_none b4) fun _ _ h => h
      have HR := Lib.hid hr
      have HFC := Lib.hid hc
      have FCN := Lib.hid fc
      have H3 := Lib.hid h3
      have H4 := Lib.hid h4
      have H5 := Lib.hid h5
      have HFL := Lib.hid (DC.lt h1)
      have HGL := Lib.hid h2.lt
      have BL4 := Lib.hid (BL3.out.trans (b4.mono BL3.out.size))
      have Z34 := Lib.hid b4.size
      have Z3 := Lib.hid BL3.out.size
      clear h1 h2 h3 h4 h5 hc fc hr b4 AL3 BL3
      go_wp2_with (fail)
      refine (refCopy_any HR.out).mono ?_
      rintro e w5 ⟨Y, rfl, b5, v', hy, hw⟩
      have BL5 := Lib.hid (BL4.out.trans (b5.mono BL4.out.size))
      have PR5 : Hid (Pairs DC w0.heap.size w5 p w1.heap.size S q Y S) := Lib.hid (by
        have z1 := Z34.out
        have z0 := Z3.out
        refine ⟨F, G, Fc, _, Wrt Y v', DC.other HF1.out (chg_none b5) fun _ _ h => h, (RefD.other ⟨v, Q, HR.out⟩ (chg_none b5) fun _ _ h => h), DC.other HFC.out (chg_none b5) fun _ _ h => h, ⟨v', Q, hy, rfl⟩, fun k hk hg => ?_, fun k hk => ?_, fun k hk => ?_⟩
        · rcases hg with hg | hg
          · have h1 := FCN.out k hk
            have h2 := HGL.out k hg.1
            omega
          · have h1 := DC.lt HFC.out k hk
            omega
        · have hn : w3.heap.size ≤ k := by
            rcases hk with hk | hk
            · exact FCN.out k hk
            · have := hw k hk; omega
          exact ⟨fun e => by have := HFL.out k e; omega, fun e => by have := HGL.out k e; omega⟩
        · rcases hk with hk | hk | hk | hk
          · exact H4.out k hk
          · exact H5.out k hk
          · have := FCN.out k hk; omega
          · rcases hk with hk | hk
            · exact H5.out k hk.1
            · omega)
      clear hy hw b5 HF1 HR HFC FCN H3 H4 H5 HFL HGL Z34 Z3 BL4
      go_wp2_with (fail)
      refine dcb_loop _ _ _ _ _ _ _ _ _ _ _ _ _ _ _ _ _ _ _ _ _ _ _ _ _ _ _ _ _ _ _ _ _ _ _ _ _ _ _ _ _ _ _ _ _ _ _ _ _ _ _ _ _ _ _ _ _ _ _ _ _ _ _ _ _ _ _ _ _ _ _ _ _ _ _ _ _ _ _ _ _ _ _ _ _ _ _ _ _ _ _ DC A2 c2 M w0 w5 p w1.heap.size S q Y HM HGM (Lib.hid ⟨0, S, rfl, Nat.zero_le _, Nat.zero_le _, by have := HOP.out; omega, PR5.out, BL5.out⟩) (Lib.hid ?_)
      intro u6 u44 u45 u46 u47 u48 u49 u50 u51 u52 u53 u54 u55 u56 u57 u58 u59 u60 u61 u62 u63 u64 u65 u66 u67 u68 u69 u70 u71 u72 u73 u74 u75 u76 u77 u78 u79 u80 u81 u82 u83 v12 T w6 PR6 BL6
      clear PR5 BL5
      go_wp2_with (fail)
      obtain ⟨F, G, Fc, Gy, Oy, h1, h2, h3, h4, h5, h6, h7⟩ := PR6.out
      refine (sameD_any DC h1 h2 at' HAT.out).mono ?_
      rintro e w7 ⟨rfl, hb7⟩
      have PR7 := Lib.hid (PR6.out.on hb7)
      have BL7 := Lib.hid (BL6.out.trans (hb7.mono BL6.out.size))
      clear h1 h2 h3 h4 h5 h6 h7 hb7 PR6 BL6
      go_wp2_with (fail)
      obtain ⟨F, G, Fc, Gy, Oy, h1, h2, h3, h4, h5, h6, h7⟩ := PR7.out
      refine (sameD_any DC h3 h4.d at' HAT.out).mono ?_
      rintro e w8 ⟨rfl, hb8⟩
      have BL8 := Lib.hid (BL7.out.trans (hb8.mono BL7.out.size))
      clear h1 h2 h3 h4 h5 h6 h7 hb8 PR7 BL7
      go_wp2_with (fail)
      refine (AWK.out w8).mono ?_
      rintro e w9 ⟨rfl, hb9⟩
      have BL9 := Lib.hid (BL8.out.trans (hb9.mono BL8.out.size))
      clear hb9
      go_wp2_with (fail)
      go_ret
      exact ⟨rfl, BL9.out⟩
end Go.Proofs.Ytkgbfghlonennaa.diskCopy
