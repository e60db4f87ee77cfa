/- Part 17 of the words that the laws share: WDPA, WDPB, DGood. No condition of its own: each theorem says its own. -/
import Derived.Test.YtkgbfghlonennaaPart16
import Derived.Test.YtkgbfghlonennaaPart2
import Derived.Test.YtkgbfghlonennaaPart13
import Derived.Test.YtkgbfghlonennaaPart1
import Derived.BigQuiet

/- DiskPlays: its first loop, over contracts of the developers' disk. Premises: the contracts. -/
namespace Go.Proofs.Ytkgbfghlonennaa
open Go.RowKit

/-- Both disks are alike, all their blocks are new since base. -/
def Alike (DC : DiskC) (base : Nat) (W : World) (p : Value) (X : Nat) (S : DS) : Prop := ∃ F G, DC.Is W p S F ∧ RefD W X S G ∧ (∀ k, F k → ¬ G k) ∧ (∀ k, F k → base ≤ k) ∧ ∀ k, G k → base ≤ k
theorem Alike.on {DC : DiskC} {base : Nat} {W W' : World} {p : Value} {X : Nat} {S : DS} (h : Alike DC base W p X S) (hb : Below W.heap.size W W') : Alike DC base W' p X S := by
  obtain ⟨F, G, h1, h2, h3, h4, h5⟩ := h
  exact ⟨F, G, DC.other h1 (chg_none hb) fun _ _ h => h, h2.other (chg_none hb) fun _ _ h => h, h3, h4, h5⟩
theorem DoLeft.alike {DC : DiskC} {base : Nat} {W W' : World} {p : Value} {X : Nat} {S : DS} {F G : Nat → Prop} (h : DoLeft DC W W' p X S S F G) (hF : ∀ k, F k → base ≤ k) (hG : ∀ k, G k → base ≤ k) (hb : base ≤ W.heap.size) : Alike DC base W' p X S ∧ Below base W W' := by
  obtain ⟨F', G', h1, h2, h3, h4, h5, h6⟩ := h
  exact ⟨⟨F', G', h1, h2, h3, fun k hk => (h4 k hk).elim (hF k) fun h => Nat.le_trans hb h, fun k hk => (h5 k hk).elim (hG k) fun h => Nat.le_trans hb h⟩, h6.below (fun k hk => hk.elim (hF k) (hG k)) hb⟩
theorem ref_new (w : World) : RefD (w.alloc (.cells #[.slice none 0 0, .int .i64 0, .bool false, .int .i64 0] 30)) w.heap.size newS fun k => k = w.heap.size :=
  ⟨.slice none 0 0, [], Blk.made w _ _, OwnR.nil _ _ _ _, rfl, rfl, fun k hk => (by cases hk), fun q hq => (by cases hq), fun k hk => by rw [hk]; simp, ⟨fun p hp => (by cases hp), List.Pairwise.nil, fun p hp => (by cases hp)⟩, (by show ((0 : Nat) : Int) ≤ _; decide), (by show 0 ≤ 1000000; decide)⟩
/-- Bytes that lay there ahead of base are none of the disks'. -/
theorem rd_apart {w : World} {u : Value} {bs : List UInt8} (h : Rd w u bs) {F : Nat → Prop} (hF : ∀ k, F k → w.heap.size ≤ k) : 0 < bs.length → ∀ j, u.ownBlock = some j → ¬ F j := fun h0 j hj hf => by
  rcases h with ⟨_, _, _, _, _, h4⟩ | ⟨b, off, c, e1, h2, _⟩
  · rw [h4] at h0; simp at h0
  · rw [e1] at hj
    have e : b = j := by simpa [Value.ownBlock] using hj
    have := hF j hf
    omega
namespace diskPlays

def DpaRel (DC : DiskC) (L : List ActV) (w0 : World) (p : Value) (X : Nat) (v : Value) (W : World) : Prop := ∃ (i : Nat) (S : DS), v = .int .i64 (i : Int) ∧ i ≤ L.length ∧ i ≤ 50 ∧ S.ops ≤ i ∧ Alike DC w0.heap.size W p X S ∧ Below w0.heap.size w0 W
noncomputable def body_dpa : Code := (((Try.f3.body.map loopsOf).getD [])[0]?).getD .skip
set_option maxRecDepth 100000 in
set_option maxHeartbeats 4000000 in
theorem dpa_loop (c2 c3 c4 c8 c9 c10 c11 c12 c13 c14 c15 c16 c17 c18 c19 c20 c21 c22 c23 c24 c25 c26 c27 c28 c29 c30 c31 c32 c33 c34 c35 c36 c37 c38 c39 c40 c41 c42 c43 c44 c45 c46 c47 c48 c49 c50 c51 c52 c53 c54 c55 c56 c57 c58 c59 c60 c61 c62 c63 c64 c65 c66 c67 c68 c69 c70 c71 c72 c73 c74 c75 c76 c77 c78 c79 c80 c81 c82 c83 c84 c85 c86 c87 c88 c89 c90 c91 c92 c93 c94 c95 c96 c97 c98 c99 c100 c101 c102 c103 c104 c105 c106 c107 c108 c109 c110 c111 c112 c113 c114 c115 c116 c117 c118 c119 c120 c121 : Value) (DC : DiskC) (A : Option Addr) (c : Nat) (L : List ActV) (at' : Int) (w0 w : World) (p : Value) (X : Nat) (hat : Hid ((Lit.int .i64 at').wf = true)) (hL : Hid (Acts w0 (.slice A L.length c) L)) (hg : Hid (∀ i, i < L.length → i < 50 → (L.getD i act0).bs.length ≤ 300)) (h0 : Hid (DpaRel DC L w0 p X (.int .i64 0) w)) {Q : Exit → Act → World → Prop}
    (HQ : Hid (∀ (u4 u18 u19 u20 u21 u22 u23 u24 u25 u26 u27 u28 u29 u30 u31 u32 u33 u34 u35 u36 u37 u38 u39 u40 u41 u42 u43 u44 u45 u46 u47 u48 u49 u50 u51 u52 u53 v : Value) (S : DS) (wx : World), Hid (S.ops ≤ 50) → Hid (Alike DC w0.heap.size wx p X S) → Hid (Below w0.heap.size w0 wx) → Q (.exit 0) ⟨List.toArray ((.slice A L.length c) :: (.int .i64 at') :: c2 :: c3 :: u4 :: p :: (.pointer (some ⟨X, 0, none⟩)) :: v :: c8 :: c9 :: c10 :: c11 :: c12 :: c13 :: c14 :: c15 :: c16 :: c17 :: u18 :: u19 :: u20 :: u21 :: u22 :: u23 :: u24 :: u25 :: u26 :: u27 :: u28 :: u29 :: u30 :: u31 :: u32 :: u33 :: u34 :: u35 :: u36 :: u37 :: u38 :: u39 :: u40 :: u41 :: u42 :: u43 :: u44 :: u45 :: u46 :: u47 :: u48 :: u49 :: u50 :: u51 :: u52 :: u53 :: c54 :: c55 :: c56 :: c57 :: c58 :: c59 :: c60 :: c61 :: c62 :: c63 :: c64 :: c65 :: c66 :: c67 :: c68 :: c69 :: c70 :: c71 :: c72 :: c73 :: c74 :: c75 :: c76 :: c77 :: c78 :: c79 :: c80 :: c81 :: c82 :: c83 :: c84 :: c85 :: c86 :: c87 :: c88 :: c89 :: c90 :: c91 :: c92 :: c93 :: c94 :: c95 :: c96 :: c97 :: c98 :: c99 :: c100 :: c101 :: c102 :: c103 :: c104 :: c105 :: c106 :: c107 :: c108 :: c109 :: c110 :: c111 :: c112 :: c113 :: c114 :: c115 :: c116 :: c117 :: c118 :: c119 :: c120 :: c121 :: []), []⟩ wx)) :
    (Code.loop body_dpa).wp Try.prog Q ⟨List.toArray ((.slice A L.length c) :: (.int .i64 at') :: c2 :: c3 :: c4 :: p :: (.pointer (some ⟨X, 0, none⟩)) :: (.int .i64 0) :: c8 :: c9 :: c10 :: c11 :: c12 :: c13 :: c14 :: c15 :: c16 :: c17 :: c18 :: c19 :: c20 :: c21 :: c22 :: c23 :: c24 :: c25 :: c26 :: c27 :: c28 :: c29 :: c30 :: c31 :: c32 :: c33 :: c34 :: c35 :: c36 :: c37 :: c38 :: c39 :: c40 :: c41 :: c42 :: c43 :: c44 :: c45 :: c46 :: c47 :: c48 :: c49 :: c50 :: c51 :: c52 :: c53 :: c54 :: c55 :: c56 :: c57 :: c58 :: c59 :: c60 :: c61 :: c62 :: c63 :: c64 :: c65 :: c66 :: c67 :: c68 :: c69 :: c70 :: c71 :: c72 :: c73 :: c74 :: c75 :: c76 :: c77 :: c78 :: c79 :: c80 :: c81 :: c82 :: c83 :: c84 :: c85 :: c86 :: c87 :: c88 :: c89 :: c90 :: c91 :: c92 :: c93 :: c94 :: c95 :: c96 :: c97 :: c98 :: c99 :: c100 :: c101 :: c102 :: c103 :: c104 :: c105 :: c106 :: c107 :: c108 :: c109 :: c110 :: c111 :: c112 :: c113 :: c114 :: c115 :: c116 :: c117 :: c118 :: c119 :: c120 :: c121 :: []), []⟩ w := by
  obtain ⟨_, _, he, hm, hA⟩ := hL.out.form
  simp only [Value.slice.injEq] at he
  obtain ⟨rfl, -, -⟩ := he
  unfold maxLen at hm
  have nI : (L.length : Int) ≤ 9223372036854775807 := by omega
  have HA := Lib.hid hA
  clear hA
  unfold body_dpa
  conv => arg 2; arg 1; whnf
  go_loopw [7] (fun v wx => DpaRel DC L w0 p X v wx) (fun v _ => 50 - (intOf v).toNat)
  case atStart => exact h0.out
  case round =>
    obtain ⟨i, S, rfl, hi, h50, hops, hal, hbl⟩ := hrel
    have HAL := Lib.hid hal
    have HBL := Lib.hid hbl
    have HOP := Lib.hid hops
    by_cases hlt : i < L.length
    · have hI : (i : Int) < L.length := by omega
      by_cases hl2 : i < 50
      · have hI2 : (i : Int) < 50 := by omega
        obtain ⟨b, off, rfl, hb1, hb3⟩ := HA.out (by omega)
        obtain ⟨a, ha⟩ : ∃ a, a = L.getD i act0 := ⟨_, rfl⟩
        have HG : Hid (a.bs.length ≤ 300) := Lib.hid (by rw [ha]; exact hg.out i hlt hl2)
        have HBB := Lib.hid hb1
        have hat0 : ActAt w0 b (off + i * 3) a := by rw [ha]; exact hb3 i hlt
        have HAT := Lib.hid hat0
        obtain ⟨u, g0, g1, g2, g3⟩ := hat0
        have HU := Lib.hid g3
        have HC : Hid (∀ W, Below w0.heap.size w0 W → W.cell? ⟨b, off + i * 3, none⟩ = some (.int .i64 a.kind) ∧ W.cell? ⟨b, off + i * 3 + 1, none⟩ = some (.int .i64 a.plc) ∧ W.cell? ⟨b, off + i * 3 + 2, none⟩ = some u) := Lib.hid fun W hW => ⟨(hW.cell (p := ⟨b, off + i * 3, none⟩) hb1).trans g0, (hW.cell (p := ⟨b, off + i * 3 + 1, none⟩) hb1).trans g1, (hW.cell (p := ⟨b, off + i * 3 + 2, none⟩) hb1).trans g2⟩
        have HI := Lib.hid hlt
        have HI2 := Lib.hid hl2
        clear g0 g1 g2 g3 ha hb1 hb3 hal hbl hops hi h50 hlt hl2
        obtain ⟨c0, c1, c2⟩ := HC.out wr HBL.out
        go_wp2_with (fail)
        obtain ⟨F, G, h1, h2, h3, h4, h5⟩ := HAL.out
        refine (do_any DC h1 h2 h3 a u (HU.out.below HBL.out) HG.out (fun hp j hj => ⟨rd_apart HU.out.rd h4 hp j hj, rd_apart HU.out.rd h5 hp j hj⟩) (by have := HOP.out; have := HI2.out; omega) (by have := HOP.out; have := HI2.out; omega)).mono ?_
        rintro e w1 ⟨bb, rfl, htrue, m, hleft⟩
        obtain rfl : bb = true := htrue rfl
        have hS := hleft.alike h4 h5 HBL.out.size
        have HAL1 := Lib.hid hS.1
        have HBL1 := Lib.hid (HBL.out.trans hS.2)
        have HOP1 : Hid ((stepS S m a).1.ops ≤ i + 1) := Lib.hid (Nat.le_trans (stepS_ops S m a) (Nat.succ_le_succ HOP.out))
        clear h1 h2 h3 h4 h5 hleft htrue hS c0 c1 c2 HAL
        obtain ⟨_, c1, _⟩ := HC.out w1 HBL1.out
        go_wp2_with (fail)
        obtain ⟨F, G, h1, h2, h3, h4, h5⟩ := HAL1.out
        refine (sameD_any DC h1 h2 a.plc HU.out.wp).mono ?_
        rintro e w2 ⟨rfl, hb2⟩
        have HAL2 := Lib.hid (HAL1.out.on hb2)
        have HBL2 := Lib.hid (HBL1.out.trans (hb2.mono HBL1.out.size))
        clear h1 h2 h3 h4 h5 hb2 c1 HAL1
        go_wp2_with (fail)
        obtain ⟨F, G, h1, h2, h3, h4, h5⟩ := HAL2.out
        refine (sameD_any DC h1 h2 at' hat.out).mono ?_
        rintro e w3 ⟨rfl, hb3⟩
        have HAL3 := Lib.hid (HAL2.out.on hb3)
        have HBL3 := Lib.hid (HBL2.out.trans (hb3.mono HBL2.out.size))
        clear h1 h2 h3 h4 h5 hb3 HAL2
        go_wp2_with (fail)
        have x1 := HI.out
        have x2 := HI2.out
        refine ⟨⟨i + 1, _, by go_num, by omega, by omega, HOP1.out, HAL3.out, HBL3.out⟩, by simp [intOf]; omega⟩
      · have hI2 : ¬ (i : Int) < 50 := by omega
        have HO50 : Hid (S.ops ≤ 50) := Lib.hid (by omega)
        clear hal hbl hops hi h50 hlt hl2
        go_wp2_with (fail)
        exact HQ.out _ _ _ _ _ _ _ _ _ _ _ _ _ _ _ _ _ _ _ _ _ _ _ _ _ _ _ _ _ _ _ _ _ _ _ _ _ _ S _ HO50 HAL HBL
    · have hI : ¬ (i : Int) < L.length := by omega
      have HO50 : Hid (S.ops ≤ 50) := Lib.hid (by omega)
      clear hal hbl hops hi h50 hlt
      go_wp2_with (fail)
      exact HQ.out _ _ _ _ _ _ _ _ _ _ _ _ _ _ _ _ _ _ _ _ _ _ _ _ _ _ _ _ _ _ _ _ _ _ _ _ _ _ S _ HO50 HAL HBL
end Go.Proofs.Ytkgbfghlonennaa.diskPlays

/- DiskPlays: its second loop, and the walk, over contracts of the developers' disk. Premises: the contracts. -/
namespace Go.Proofs.Ytkgbfghlonennaa
open Go.RowKit

theorem find_at {S : DS} (h : DOk S) {i : Nat} (hi : i < S.L.length) : findL S.L (S.L[i].plc : Int) = i :=
  findL_at hi (fun q hq e => by
    have := (List.pairwise_iff_getElem.1 h.rise) q i (by omega) hi hq
    omega) rfl
theorem read_at {S : DS} (h : DOk S) {i : Nat} (hi : i < S.L.length) : readS S (S.L[i].plc : Int) = if S.L[i].torn then ([], 9) else (S.L[i].now, 0) := by
  have hl := h.low _ (List.getElem_mem hi)
  unfold readS
  rw [if_neg (by omega), find_at h hi, List.getElem?_eq_getElem hi]
theorem rawP_length {S : DS} (h : DOk S) (k : Nat) : (rawP S k).length = 128 := by
  unfold rawP
  split
  · simp [z128]
  · rename_i p hp
    split
    · simp [z128]
    · exact (h.full p (List.mem_of_getElem? hp)).1
theorem raw_rows {S : DS} (h : DOk S) : ∀ l ∈ (List.range 1024).map (rawP S), l.length = 128 := fun l hl => by
  obtain ⟨k, _, rfl⟩ := List.mem_map.1 hl
  exact rawP_length h k
theorem raw_length {S : DS} (h : DOk S) : (rawS S).length = 131072 := by
  unfold rawS
  rw [flat_length (raw_rows h), List.length_map, List.length_range]
theorem raw_piece {S : DS} (h : DOk S) {i : Nat} (hi : i < S.L.length) (ht : S.L[i].torn = false) : ((rawS S).drop (S.L[i].plc * 128)).take 128 = S.L[i].now := by
  have hl := h.low _ (List.getElem_mem hi)
  have hn := (h.full _ (List.getElem_mem hi)).1
  have hp : rawP S S.L[i].plc = S.L[i].now := by
    unfold rawP
    rw [find_at h hi, List.getElem?_eq_getElem hi]
    show (if S.L[i].torn then z128 else S.L[i].now) = _
    rw [ht]
    rfl
  apply List.ext_getElem?
  intro j
  by_cases hj : j < 128
  · rw [List.getElem?_take_of_lt hj, List.getElem?_drop]
    unfold rawS
    have e : ((List.range 1024).map (rawP S)).getD S.L[i].plc [] = S.L[i].now := by
      rw [List.getD, List.getElem?_map, List.getElem?_range hl]
      exact hp
    rw [flat_get (raw_rows h) _ _ (by simpa using hl) hj, e, List.getD, List.getElem?_eq_getElem (by omega)]
    rfl
  · rw [List.getElem?_eq_none (by simp; omega), List.getElem?_eq_none (by omega)]
namespace diskPlays

def DpbRel (DC : DiskC) (S : DS) (w0 : World) (p : Value) (X : Nat) (rw' : Value) (v : Value) (W : World) : Prop := ∃ i : Nat, v = .int .i64 (i : Int) ∧ i ≤ S.L.length ∧ Alike DC w0.heap.size W p X S ∧ Rd W rw' (rawS S) ∧ Below w0.heap.size w0 W
noncomputable def body_dpb : Code := (((Try.f3.body.map loopsOf).getD [])[1]?).getD .skip
set_option maxRecDepth 100000 in
set_option maxHeartbeats 4000000 in
theorem dpb_loop (c0 c1 c2 c3 c4 c7 c10 c11 c12 c13 c14 c15 c16 c17 c18 c19 c20 c21 c22 c23 c24 c25 c26 c27 c28 c29 c30 c31 c32 c33 c34 c35 c36 c37 c38 c39 c40 c41 c42 c43 c44 c45 c46 c47 c48 c49 c50 c51 c52 c53 c54 c55 c56 c57 c58 c59 c60 c61 c62 c63 c64 c65 c66 c67 c68 c69 c70 c71 c72 c73 c74 c75 c76 c77 c78 c79 c80 c81 c82 c83 c84 c85 c86 c87 c88 c89 c90 c91 c92 c93 c94 c95 c96 c97 c98 c99 c100 c101 c102 c103 c104 c105 c106 c107 c108 c109 c110 c111 c112 c113 c114 c115 c116 c117 c118 c119 c120 c121 : Value) (DC : DiskC) (S : DS) (w0 w : World) (p rv : Value) (X : Nat) (h0 : Hid (DpbRel DC S w0 p X rv (.int .i64 0) w)) {Q : Exit → Act → World → Prop}
    (HQ : Hid (∀ (u4 u10 u11 u59 u60 u61 u62 u63 u64 u65 u66 u67 u68 u69 u70 u71 u72 u73 u74 u75 u76 u77 u78 u79 u80 u81 u82 u83 u84 u85 u86 u87 u88 u89 u90 u91 u92 u93 u94 u95 u96 u97 u98 u99 u100 u101 u102 u103 u104 u105 u106 u107 u108 u109 u110 u111 u112 u113 u114 u115 u116 u117 u118 u119 u120 v : Value) (wx : World), Hid (Below w0.heap.size w0 wx) → Q (.exit 2) ⟨List.toArray (c0 :: c1 :: c2 :: c3 :: u4 :: p :: (.pointer (some ⟨X, 0, none⟩)) :: c7 :: rv :: v :: u10 :: u11 :: c12 :: c13 :: c14 :: c15 :: c16 :: c17 :: c18 :: c19 :: c20 :: c21 :: c22 :: c23 :: c24 :: c25 :: c26 :: c27 :: c28 :: c29 :: c30 :: c31 :: c32 :: c33 :: c34 :: c35 :: c36 :: c37 :: c38 :: c39 :: c40 :: c41 :: c42 :: c43 :: c44 :: c45 :: c46 :: c47 :: c48 :: c49 :: c50 :: c51 :: c52 :: c53 :: c54 :: c55 :: c56 :: c57 :: c58 :: u59 :: u60 :: u61 :: u62 :: u63 :: u64 :: u65 :: u66 :: u67 :: u68 :: u69 :: u70 :: u71 :: u72 :: u73 :: u74 :: u75 :: u76 :: u77 :: u78 :: u79 :: u80 :: u81 :: u82 :: u83 :: u84 :: u85 :: u86 :: u87 :: u88 :: u89 :: u90 :: u91 :: u92 :: u93 :: u94 :: u95 :: u96 :: u97 :: u98 :: u99 :: u100 :: u101 :: u102 :: u103 :: u104 :: u105 :: u106 :: u107 :: u108 :: u109 :: u110 :: u111 :: u112 :: u113 :: u114 :: u115 :: u116 :: u117 :: u118 :: u119 :: u120 :: c121 :: []), []⟩ wx)) :
    (Code.loop body_dpb).wp Try.prog Q ⟨List.toArray (c0 :: c1 :: c2 :: c3 :: c4 :: p :: (.pointer (some ⟨X, 0, none⟩)) :: c7 :: rv :: (.int .i64 0) :: c10 :: c11 :: c12 :: c13 :: c14 :: c15 :: c16 :: c17 :: c18 :: c19 :: c20 :: c21 :: c22 :: c23 :: c24 :: c25 :: c26 :: c27 :: c28 :: c29 :: c30 :: c31 :: c32 :: c33 :: c34 :: c35 :: c36 :: c37 :: c38 :: c39 :: c40 :: c41 :: c42 :: c43 :: c44 :: c45 :: c46 :: c47 :: c48 :: c49 :: c50 :: c51 :: c52 :: c53 :: c54 :: c55 :: c56 :: c57 :: c58 :: c59 :: c60 :: c61 :: c62 :: c63 :: c64 :: c65 :: c66 :: c67 :: c68 :: c69 :: c70 :: c71 :: c72 :: c73 :: c74 :: c75 :: c76 :: c77 :: c78 :: c79 :: c80 :: c81 :: c82 :: c83 :: c84 :: c85 :: c86 :: c87 :: c88 :: c89 :: c90 :: c91 :: c92 :: c93 :: c94 :: c95 :: c96 :: c97 :: c98 :: c99 :: c100 :: c101 :: c102 :: c103 :: c104 :: c105 :: c106 :: c107 :: c108 :: c109 :: c110 :: c111 :: c112 :: c113 :: c114 :: c115 :: c116 :: c117 :: c118 :: c119 :: c120 :: c121 :: []), []⟩ w := by
  obtain ⟨i8, hi8, _, hs8, _⟩ := info_parts info_u8
  unfold body_dpb
  conv => arg 2; arg 1; whnf
  go_loopw [9] (fun v wx => DpbRel DC S w0 p X rv v wx) (fun v _ => S.L.length - (intOf v).toNat)
  case atStart => exact h0.out
  case round =>
    obtain ⟨i, rfl, hi, hal, hraw, hbl⟩ := hrel
    have HAL := Lib.hid hal
    have HBL := Lib.hid hbl
    have HRW := Lib.hid hraw
    obtain ⟨F, G, h1, ⟨v, Q0, hr⟩, h3, h4, h5⟩ := hal
    have HOK := Lib.hid hr.good
    have n1 : S.L.length ≤ 1024 := hr.good.length
    obtain ⟨A, c, rfl, _, _, hA⟩ := hr.form
    have HLN := Lib.hid hr.len
    have nI : (Q0.length : Int) ≤ 1024 := by have := HLN.out; omega
    have c0 : wr.cell? ⟨X, 0, none⟩ = some (.slice A Q0.length c) := by rw [hr.blk.cell]; rfl
    by_cases hlt : i < S.L.length
    · have hI : (i : Int) < Q0.length := by have := HLN.out; omega
      obtain ⟨g, rfl, hg⟩ := hA (by have := HLN.out; omega)
      have hiq : i < Q0.length := by have := HLN.out; omega
      obtain ⟨q, hq⟩ : ∃ q : Pl, q = S.L[i] := ⟨_, rfl⟩
      obtain ⟨k, hk⟩ : ∃ k, k = q.plc := ⟨_, rfl⟩
      have hk2 : (Q0[i]).p.plc = k := by rw [hk, hq, hr.at hiq]
      have cg : wr.cell? ⟨g, i * 6, none⟩ = some (.int .i64 (k : Int)) := by
        have h := hr.cell hiq (j := 0) (by decide)
        rw [← hk2]
        exact h
      have HPL : Hid (k < 1024) := Lib.hid (by rw [hk, hq]; exact hr.good.low _ (List.getElem_mem hlt))
      have kI : (k : Int) < 1024 := by have := HPL.out; omega
      have HWF : Hid ((Lit.int .i64 (k : Int)).wf = true) := Lib.hid (WalkArith.wf_i64 (by omega))
      have HRD := Lib.hid (refRead_any hr (k : Int))
      have HIL := Lib.hid hlt
      have HCG : Hid (∀ W, Below wr.heap.size wr W → (∀ m, (W.drewN m).cell? ⟨X, 0, none⟩ = some (.slice (some ⟨g, 0, none⟩) Q0.length c)) ∧ ∀ m, (W.drewN m).cell? ⟨g, i * 6, none⟩ = some (.int .i64 (k : Int))) := Lib.hid fun W hW => by
        have hX : X < wr.heap.size := hr.fl X hr.fx
        exact ⟨fun m => (hW.cell (p := ⟨X, 0, none⟩) hX).trans c0, fun m => (hW.cell (p := ⟨g, i * 6, none⟩) hg).trans cg⟩
      have hread := read_at hr.good hlt
      rw [← hq, ← hk] at hread
      have HEA := Lib.hid hread
      have HPC : Hid (q.torn = false → ((rawS S).drop (k * 128)).take 128 = q.now) := Lib.hid fun ht => by
        have h := raw_piece hr.good hlt (by rw [← hq]; exact ht)
        rw [← hq, ← hk] at h
        exact h
      clear h1 h3 h4 h5 hr hA hread hk2 hk hq hraw hbl hi n1 hiq hlt hg
      go_wp2_with (fail)
      refine HRD.out.mono ?_
      rintro e w1 ⟨u, rfl, hu, hb1⟩
      have HU := Lib.hid hu
      have L1 := Lib.hid hb1
      have AL1 := Lib.hid (HAL.out.on hb1)
      have BL1 := Lib.hid (HBL.out.trans (hb1.mono HBL.out.size))
      have RW1 := Lib.hid (HRW.out.below hb1)
      clear hu hb1 HAL HRD c0 cg
      obtain ⟨cx, cg⟩ := HCG.out w1 L1.out
      obtain ⟨tn, htn⟩ : ∃ tn, tn = q.torn := ⟨_, rfl⟩
      cases tn with
      | true =>
        have HE9 : Hid (readS S (k : Int) = ([], 9)) := Lib.hid (by rw [HEA.out, ← htn]; rfl)
        rw [HE9.out]
        clear htn
        go_wp2_with (fail)
        go_quiet (fail)
        go_wp2_with (fail)
        have AL2 := Lib.hid (AL1.out.on (below_drewN (Below.refl _ _) nq))
        have RW2 := Lib.hid (RW1.out.drewN nq)
        have BL2 := Lib.hid (below_drewN BL1.out nq)
        obtain ⟨F, G, h1, h2, h3, h4, h5⟩ := AL2.out
        refine (sameD_any DC h1 h2 (k : Int) HWF.out).mono ?_
        rintro e w3 ⟨rfl, hb3⟩
        have AL3 := Lib.hid (AL2.out.on hb3)
        have RW3 := Lib.hid (RW2.out.below hb3)
        have BL3 := Lib.hid (BL2.out.trans (hb3.mono BL2.out.size))
        clear h1 h2 h3 h4 h5 hb3 AL2 RW2 BL2 cx cg
        go_wp2_with (fail)
        have hl := HIL.out
        refine ⟨⟨i + 1, by go_num, by omega, AL3.out, RW3.out, BL3.out⟩, by simp [intOf]; omega⟩
      | false =>
        have HE0 : Hid (readS S (k : Int) = (q.now, 0)) := Lib.hid (by rw [HEA.out, ← htn]; rfl)
        have HU2 : Hid (Rd w1 u q.now) := Lib.hid (by have h := HU.out; rw [HE0.out] at h; exact h)
        have hpc := HPC.out htn.symm
        rw [HE0.out]
        obtain ⟨As, cs, hs, hrs⟩ := RW1.out.mid 32 5 i8 Try.underlying32 hi8 hs8 (k * 128) (k * 128 + 128) (by omega) (by rw [raw_length HOK.out]; have := HPL.out; omega)
        rw [show k * 128 + 128 - k * 128 = 128 by omega] at hs hrs
        rw [hpc] at hrs
        have hs' : ∀ W, (Instr.slice 32 rv (some (.int .i64 ((k : Int) * 128))) (some (.int .i64 ((k : Int) * 128 + 128))) none).run Try.prog W = .ok (.slice As 128 cs) W := fun W => by
          have h := hs W
          rw [show ((k * 128 : Nat) : Int) = (k : Int) * 128 by omega, show ((k * 128 + 128 : Nat) : Int) = (k : Int) * 128 + 128 by omega] at h
          exact h
        have M1 : Hid (∀ n, Calls Try.prog 14 #[.slice As 128 cs, u] (w1.drewN n) fun e w' => e = .returned (.bool true) ∧ ∃ m, w' = (w1.drewN n).drewN m) := Lib.hid fun n => by
          have h := same_any (.slice As 128 cs) u _ _ (w1.drewN n) (hrs.drewN n) (HU2.out.drewN n)
          rw [decide_eq_true rfl] at h
          exact h
        have e1 : IntKind.i64.wrap ((k : Int) * 128) = (k : Int) * 128 := IntWalk.i64_in _ (by omega)
        have e2 : IntKind.i64.wrap ((k : Int) * 128 + 128) = (k : Int) * 128 + 128 := IntWalk.i64_in _ (by omega)
        clear htn hs hrs hpc
        go_wp2_with (fail)
        go_quiet (first | (go_at_call 14; exact Calls.quiet_of (M1.out _)))
        go_wp2_with (fail)
        have AL2 := Lib.hid (AL1.out.on (below_drewN (Below.refl _ _) nq))
        have RW2 := Lib.hid (RW1.out.drewN nq)
        have BL2 := Lib.hid (below_drewN BL1.out nq)
        obtain ⟨F, G, h1, h2, h3, h4, h5⟩ := AL2.out
        refine (sameD_any DC h1 h2 (k : Int) HWF.out).mono ?_
        rintro e w3 ⟨rfl, hb3⟩
        have AL3 := Lib.hid (AL2.out.on hb3)
        have RW3 := Lib.hid (RW2.out.below hb3)
        have BL3 := Lib.hid (BL2.out.trans (hb3.mono BL2.out.size))
        clear h1 h2 h3 h4 h5 hb3 AL2 RW2 BL2 cx cg
        go_wp2_with (fail)
        have hl := HIL.out
        refine ⟨⟨i + 1, by go_num, by omega, AL3.out, RW3.out, BL3.out⟩, by simp [intOf]; omega⟩
    · have hI : ¬ (i : Int) < Q0.length := by have := HLN.out; omega
      clear h1 h3 h4 h5 hr hA hraw hbl hi n1 hlt
      go_wp2_with (fail)
      exact HQ.out _ _ _ _ _ _ _ _ _ _ _ _ _ _ _ _ _ _ _ _ _ _ _ _ _ _ _ _ _ _ _ _ _ _ _ _ _ _ _ _ _ _ _ _ _ _ _ _ _ _ _ _ _ _ _ _ _ _ _ _ _ _ _ _ _ _ _ HBL
set_option maxRecDepth 100000 in
set_option maxHeartbeats 4000000 in
theorem walkC (DC : DiskC) (v0 : Value) (L : List ActV) (at' : Int) (w : World) (hL : Acts w v0 L) (hat : (Lit.int .i64 at').wf = true) : Calls Try.prog 3 #[v0, .int .i64 at'] w fun e w' => e = .returned (.bool true) ∧ Below w.heap.size w w' := by
  have HG := Lib.hid (great_any v0 L w hL)
  obtain ⟨A, c, rfl, _, _⟩ := hL.form
  have HL := Lib.hid hL
  have HAT := Lib.hid hat
  clear hL hat
  go_enter Try.func3, Try.ntmps3
  go_wp2_with (fail)
  refine HG.out.mono ?_
  rintro e w0 ⟨b, rfl, rfl, hgr⟩
  cases b with
  | true =>
    clear hgr
    go_wp2_with (fail)
    refine (awakeD_any DC w0).mono ?_
    rintro e w1 ⟨rfl, hb1⟩
    have B1 := Lib.hid hb1
    clear hb1
    go_wp2_with (fail)
    go_ret
    exact ⟨rfl, B1.out⟩
  | false =>
    have HGR := Lib.hid (hgr rfl)
    clear hgr
    go_wp2_with (fail)
    refine (DC.new w0).mono ?_
    rintro e w1 ⟨p, rfl, ⟨F, h1, f1⟩, b1⟩
    obtain ⟨W2, hW2⟩ : ∃ W : World, W = w1.alloc (.cells #[.slice none 0 0, .int .i64 0, .bool false, .int .i64 0] 30) := ⟨_, rfl⟩
    have L2 : Below w1.heap.size w1 W2 := by rw [hW2]; exact (Below.refl _ _).alloc (Nat.le_refl _) _
    have r2 : RefD W2 w1.heap.size newS fun k => k = w1.heap.size := by rw [hW2]; exact ref_new w1
    have BL2 := Lib.hid (b1.trans (L2.mono b1.size))
    have AL2 : Hid (Alike DC w0.heap.size W2 p w1.heap.size newS) := Lib.hid ⟨F, _, DC.other h1 (chg_none L2) fun _ _ h => h, r2, fun k hk e => by have := DC.lt h1 k hk; omega, f1, fun k e => by rw [e]; exact b1.size⟩
    clear h1 f1 b1 L2 r2
    go_wp2_with (fail)
    rw [← hW2]
    clear hW2
    refine dpa_loop _ _ _ _ _ _ _ _ _ _ _ _ _ _ _ _ _ _ _ _ _ _ _ _ _ _ _ _ _ _ _ _ _ _ _ _ _ _ _ _ _ _ _ _ _ _ _ _ _ _ _ _ _ _ _ _ _ _ _ _ _ _ _ _ _ _ _ _ _ _ _ _ _ _ _ _ _ _ _ _ _ _ _ _ _ _ _ _ _ _ _ _ _ _ _ _ _ _ _ _ _ _ _ _ _ _ _ _ _ _ _ _ _ _ _ _ _ DC A c L at' w0 W2 p w1.heap.size HAT HL HGR (Lib.hid ⟨0, newS, rfl, Nat.zero_le _, Nat.zero_le _, Nat.le_refl _, AL2.out, BL2.out⟩) (Lib.hid ?_)
    intro u4 u18 u19 u20 u21 u22 u23 u24 u25 u26 u27 u28 u29 u30 u31 u32 u33 u34 u35 u36 u37 u38 u39 u40 u41 u42 u43 u44 u45 u46 u47 u48 u49 u50 u51 u52 u53 u7 S w3 HOP AL3 BL3
    clear AL2 BL2 HGR
    go_wp2_with (fail)
    obtain ⟨F, G, h1, h2, h3, h4, h5⟩ := AL3.out
    have HOK := Lib.hid (DC.good h1)
    refine (DC.raw h1).mono ?_
    rintro e w4 ⟨rv, rfl, hr, hb4⟩
    have AL4 := Lib.hid (AL3.out.on hb4)
    have BL4 := Lib.hid (BL3.out.trans (hb4.mono BL3.out.size))
    have HRV := Lib.hid hr
    obtain ⟨Ar, cr, he, _, _, _⟩ := hr.form
    rw [raw_length HOK.out] at he
    subst he
    clear h1 h2 h3 h4 h5 hr hb4 AL3 BL3
    go_wp2_with (fail)
    refine dpb_loop _ _ _ _ _ _ _ _ _ _ _ _ _ _ _ _ _ _ _ _ _ _ _ _ _ _ _ _ _ _ _ _ _ _ _ _ _ _ _ _ _ _ _ _ _ _ _ _ _ _ _ _ _ _ _ _ _ _ _ _ _ _ _ _ _ _ _ _ _ _ _ _ _ _ _ _ _ _ _ _ _ _ _ _ _ _ _ _ _ _ _ _ _ _ _ _ _ _ _ _ _ _ _ _ _ _ _ _ _ _ _ _ _ _ _ _ _ _ DC S w0 w4 p _ w1.heap.size (Lib.hid ⟨0, rfl, Nat.zero_le _, AL4.out, HRV.out, BL4.out⟩) (Lib.hid ?_)
    intro u4 u10 u11 u59 u60 u61 u62 u63 u64 u65 u66 u67 u68 u69 u70 u71 u72 u73 u74 u75 u76 u77 u78 u79 u80 u81 u82 u83 u84 u85 u86 u87 u88 u89 u90 u91 u92 u93 u94 u95 u96 u97 u98 u99 u100 u101 u102 u103 u104 u105 u106 u107 u108 u109 u110 u111 u112 u113 u114 u115 u116 u117 u118 u119 u120 v9 w5 BL5
    clear AL4 BL4 HRV
    go_wp2_with (fail)
    refine (awakeD_any DC w5).mono ?_
    rintro e w6 ⟨rfl, hb6⟩
    have BL6 := Lib.hid (BL5.out.trans (hb6.mono BL5.out.size))
    clear hb6
    go_wp2_with (fail)
    go_ret
    exact ⟨rfl, BL6.out⟩
end Go.Proofs.Ytkgbfghlonennaa.diskPlays

/- Each act leaves a disk as a disk is. Condition: what it was before. -/
namespace Go.Proofs.Ytkgbfghlonennaa

theorem dok_of {S S' : DS} (h : DOk S) (hL : S'.L = S.L) : DOk S' := DOk.ops h hL
theorem dok_new : DOk newS := ⟨fun _ h => (List.not_mem_nil h).elim, List.Pairwise.nil, fun _ h => (List.not_mem_nil h).elim⟩
theorem dok_withP {S : DS} {k : Nat} (h : DOk S) (hk : k < 1024) : DOk { S with L := withP S.L k } := by
  unfold withP
  split
  · exact h
  · rename_i hn
    exact insP_ok h hk hn rfl
theorem dok_writeL {S : DS} {k : Nat} (h : DOk S) (hk : k < 1024) {bs : List UInt8} (hb : bs.length ≤ 128) : DOk { S with L := writeL S.L k bs } := by
  have h1 := dok_withP h hk
  have hi : findL (withP S.L k) k < (withP S.L k).length := withP_found S.L k
  have hf := h1.full _ (List.getElem_mem hi)
  refine DOk.put (S := { S with L := withP S.L k }) h1 hi (p := putP (withP S.L k)[findL (withP S.L k) k] bs) rfl (pad128_length hb) ?_ ?_
  · show (if _ then _ else _ : List UInt8).length = 128
    split
    · exact hf.2
    · exact hf.1
  · show writeL S.L k bs = _
    exact writeL_set rfl rfl hi
theorem dok_write {S : DS} (h : DOk S) (k : Int) (bs : List UInt8) : DOk (writeS S k bs).1 := by
  unfold writeS
  split
  · exact h
  · split
    · exact h
    · split
      · exact h
      · rename_i h1 h2
        exact dok_of (dok_writeL h (k := k.toNat) (by omega) (bs := bs) (by omega)) (burnS_L _)
theorem dok_map {S : DS} (h : DOk S) {f : Pl → Pl} (hf : ∀ p, (f p).plc = p.plc) (hn : ∀ p, p.now.length = 128 ∧ p.was.length = 128 → (f p).now.length = 128 ∧ (f p).was.length = 128) : DOk { S with L := S.L.map f } := by
  refine ⟨fun p hp => ?_, ?_, fun p hp => ?_⟩
  · obtain ⟨q, hq, rfl⟩ := List.mem_map.1 hp
    rw [hf]
    exact h.low q hq
  · show (S.L.map f).Pairwise _
    rw [List.pairwise_map]
    exact h.rise.imp fun {p q} hpq => by rw [hf, hf]; exact hpq
  · obtain ⟨q, hq, rfl⟩ := List.mem_map.1 hp
    exact hn q (h.full q hq)
theorem dok_sync {S : DS} (h : DOk S) : DOk (syncS S).1 := by
  unfold syncS
  split
  · exact h
  · dsimp only
    split
    · exact dok_of h (burnS_L S)
    · exact dok_map (dok_of h (burnS_L S)) (fun _ => rfl) fun _ hp => hp
theorem dok_fuse {S : DS} (h : DOk S) (n : Int) : DOk (fuseS S n).1 := by
  unfold fuseS
  split
  · exact h
  · exact dok_of h rfl
theorem boot_full (fs : List UInt8) : ∀ (L : List Pl) (j : Nat), (∀ p ∈ L, p.now.length = 128 ∧ p.was.length = 128) → ∀ p ∈ bootL fs j L, p.now.length = 128 ∧ p.was.length = 128
  | [], _, _, p, hp => by cases hp
  | q :: L, j, h, p, hp => by
    rw [List.forall_mem_cons] at h
    unfold bootL at hp
    split at hp
    · rcases List.mem_cons.1 hp with rfl | hp
      · refine ⟨?_, h.1.2⟩
        show (if _ then _ else _ : List UInt8).length = 128
        split
        · exact h.1.2
        · exact h.1.1
      · exact boot_full fs L _ h.2 p hp
    · rcases List.mem_cons.1 hp with rfl | hp
      · exact h.1
      · exact boot_full fs L _ h.2 p hp
theorem boot_rise (fs : List UInt8) : ∀ (L : List Pl) (j : Nat), L.Pairwise (fun p q => p.plc < q.plc) → (bootL fs j L).Pairwise (fun p q => p.plc < q.plc)
  | [], _, _ => List.Pairwise.nil
  | q :: L, j, h => by
    rw [List.pairwise_cons] at h
    unfold bootL
    split
    · rw [List.pairwise_cons]
      refine ⟨fun p hp => ?_, boot_rise fs L _ h.2⟩
      obtain ⟨r, h1, h2⟩ := bootL_plc fs _ L p hp
      rw [← h2]
      exact h.1 r h1
    · rw [List.pairwise_cons]
      refine ⟨fun p hp => ?_, boot_rise fs L _ h.2⟩
      obtain ⟨r, h1, h2⟩ := bootL_plc fs _ L p hp
      rw [← h2]
      exact h.1 r h1
theorem dok_boot {S : DS} (h : DOk S) (fs : List UInt8) : DOk (bootS S fs) := by
  refine ⟨fun p hp => ?_, boot_rise fs S.L 0 h.rise, boot_full fs S.L 0 h.full⟩
  obtain ⟨r, h1, h2⟩ := bootL_plc fs _ S.L p hp
  rw [← h2]
  exact h.low r h1
end Go.Proofs.Ytkgbfghlonennaa
