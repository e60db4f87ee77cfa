/- Part 14 of the words that the laws share: RefBlkA. No condition of its own: each theorem says its own. -/
import Derived.Test.YtmoffodmbbkolaaDoorPart13
import Derived.Test.YtmoffodmbbkolaaDoorPart7

/- The fourth reference's Block: the loop over the sixteen words. Condition: 64 bytes. -/
namespace Go.Proofs.YtmoffodmbbkolaaDoor
open Go.RowKit

def WrdRel (w : World) (m : List UInt8) (s v i : Value) (W : World) : Prop :=
  ∃ j : Nat, i = .int .i64 (j : Int) ∧ j ≤ 16 ∧ W.ownsRow w.heap.size 47 1 s j ((wLE m j).map wv) ∧ W.ownsRow w.heap.size 47 1 v j ((wLE m j).map wv) ∧ Apart2 s v ∧ Below w.heap.size w W
noncomputable def body_wrd : Code := (((Tryd.f22.body.map loopsOf).getD [])[0]?).getD .skip
set_option maxRecDepth 100000 in
set_option maxHeartbeats 1000000 in
theorem wrd_loop (c0 c1 c2 c3 c4 c5 c6 c11 c12 c13 c14 c15 c16 c17 c18 c19 c20 c21 c22 c23 c24 c25 c26 c27 c28 c29 c30 c31 c32 c33 c34 c35 c36 c37 c38 c39 c40 c41 c42 c43 c44 c45 c46 c47 c48 c49 c50 c51 c52 c53 c54 c55 c56 c57 c58 c59 c60 c61 c62 c63 c64 c65 c66 c67 c68 c69 c70 c71 c72 c73 c74 c75 c76 c77 c78 c79 c80 c81 c82 c83 c84 c85 c86 c87 c88 c89 c90 c91 c92 c93 c94 c95 c96 c97 c98 c99 c100 c101 c102 : Value) (vm : Value) (m : List UInt8) (w : World) (hm : Hid (Rd w vm m)) (hl : m.length = 64) {Q : Exit → Act → World → Prop}
    (HQ : Hid (∀ (u10 u29 u30 u31 u32 u33 u34 u35 u36 u37 u38 u39 u40 u41 u42 u43 u44 u45 u46 u47 u48 s v : Value) (wx : World), Hid (wx.ownsRow w.heap.size 47 1 s 16 ((wLE m 16).map wv)) → Hid (wx.ownsRow w.heap.size 47 1 v 16 ((wLE m 16).map wv)) → Hid (Apart2 s v) → Hid (Below w.heap.size w wx) → Q (.exit 0) ⟨List.toArray (c0 :: c1 :: c2 :: c3 :: c4 :: c5 :: c6 :: vm :: s :: v :: u10 :: c11 :: c12 :: c13 :: c14 :: c15 :: c16 :: c17 :: c18 :: c19 :: c20 :: c21 :: c22 :: c23 :: c24 :: c25 :: c26 :: c27 :: c28 :: u29 :: u30 :: u31 :: u32 :: u33 :: u34 :: u35 :: u36 :: u37 :: u38 :: u39 :: u40 :: u41 :: u42 :: u43 :: u44 :: u45 :: u46 :: u47 :: u48 :: c49 :: c50 :: c51 :: c52 :: c53 :: c54 :: c55 :: c56 :: c57 :: c58 :: c59 :: c60 :: c61 :: c62 :: c63 :: c64 :: c65 :: c66 :: c67 :: c68 :: c69 :: c70 :: c71 :: c72 :: c73 :: c74 :: c75 :: c76 :: c77 :: c78 :: c79 :: c80 :: c81 :: c82 :: c83 :: c84 :: c85 :: c86 :: c87 :: c88 :: c89 :: c90 :: c91 :: c92 :: c93 :: c94 :: c95 :: c96 :: c97 :: c98 :: c99 :: c100 :: c101 :: c102 :: []), []⟩ wx)) :
    (Code.loop body_wrd).wp Tryd.prog Q ⟨List.toArray (c0 :: c1 :: c2 :: c3 :: c4 :: c5 :: c6 :: vm :: (.slice none 0 0) :: (.slice none 0 0) :: (.int .i64 0) :: c11 :: c12 :: c13 :: c14 :: c15 :: c16 :: c17 :: c18 :: c19 :: c20 :: c21 :: c22 :: c23 :: c24 :: c25 :: c26 :: c27 :: c28 :: c29 :: c30 :: c31 :: c32 :: c33 :: c34 :: c35 :: c36 :: c37 :: c38 :: c39 :: c40 :: c41 :: c42 :: c43 :: c44 :: c45 :: c46 :: c47 :: c48 :: c49 :: c50 :: c51 :: c52 :: c53 :: c54 :: c55 :: c56 :: c57 :: c58 :: c59 :: c60 :: c61 :: c62 :: c63 :: c64 :: c65 :: c66 :: c67 :: c68 :: c69 :: c70 :: c71 :: c72 :: c73 :: c74 :: c75 :: c76 :: c77 :: c78 :: c79 :: c80 :: c81 :: c82 :: c83 :: c84 :: c85 :: c86 :: c87 :: c88 :: c89 :: c90 :: c91 :: c92 :: c93 :: c94 :: c95 :: c96 :: c97 :: c98 :: c99 :: c100 :: c101 :: c102 :: []), []⟩ w := by
  obtain ⟨i0, hi, hz0, hz1, hz2⟩ := info_parts info_u8
  obtain ⟨i3, k0, k1, k2, k3⟩ := info_parts info_w32
  have HLL := Lib.hid hl
  clear hl
  unfold body_wrd
  conv => arg 2; arg 1; whnf
  go_loopw [8, 9, 10] (fun s v i wx => WrdRel w m s v i wx) (fun _ _ i _ => 16 - (intOf i).toNat)
  case atStart => exact ⟨0, rfl, by omega, World.ownsRow_nil _ _ _ _, World.ownsRow_nil _ _ _ _, Apart2.nil _, Below.refl _ _⟩
  case round =>
    obtain ⟨j, rfl, hj, ows, owv, hap, bl⟩ := hrel
    by_cases hlt : j < 16
    · have hI : (j : Int) < 16 := by omega
      obtain ⟨A2, c2, S2, r2⟩ := hm.out.low (P := Tryd.prog) 26 5 i0 Tryd.underlying26 hi hz1 (4 * j) (by have := HLL.out; omega)
      have S3 : ∀ W, (Instr.slice 26 vm (some (.int .i64 (4 * (j : Int)))) none none).run Tryd.prog W = .ok (.slice A2 (m.length - 4 * j) c2) W := fun W => by
        have e : (4 * (j : Int)) = ((4 * j : Nat) : Int) := by omega
        rw [e]
        exact S2 W
      have HR2 := Lib.hid r2
      have HLN : Hid (m.length - 4 * j = (m.drop (4 * j)).length) := by show _ = _; rw [List.length_drop]
      obtain ⟨x, hx⟩ : ∃ x, x = numB ((m.drop (4 * j)).take 4) := ⟨_, rfl⟩
      have HX := Lib.hid hx
      have HC : Hid (∀ W, Below w.heap.size w W → Calls Tryd.prog 32 #[.slice A2 (m.length - 4 * j) c2] W fun e w' => e = .returned (.int .u32 ((x : Nat) : Int)) ∧ W = w') := Lib.hid (fun W hW => by
        have h := word_any (.slice A2 (m.length - 4 * j) c2) (m.drop (4 * j)) W (r2.below hW) (by have := HLL.out; rw [List.length_drop]; omega) (by have := HLL.out; rw [List.length_drop]; omega)
        rw [← hx] at h
        exact h)
      have HS : Hid ((wLE m (j + 1)).map wv = (wLE m j).map wv ++ [wv x]) := by show _ = _; rw [wLE, List.map_append, hx]; rfl
      have qs : w.heap.size ≤ wr.heap.size := bl.size
      have qm : Hid (j + 1 ≤ maxLen) := by show j + 1 ≤ maxLen; unfold maxLen; omega
      have qb : Hid ((j + 1) * 4 ≤ 140737488355328) := by show (j + 1) * 4 ≤ 140737488355328; omega
      have HAP := Lib.hid hap
      have HBL := Lib.hid bl
      have HOS := Lib.hid ows
      have HOV := Lib.hid owv
      clear S2 r2 hx hap bl ows owv hj
      go_wp2_with (fail)
      refine (HC.out _ HBL.out).mono ?_
      rintro e w1 ⟨rfl, rfl⟩
      go_wp2_with (at_builtin
                   refine wpList_append_one_two _ _ _ rfl (.tmp 33) (.tmp 39) _ rfl w.heap.size 47 i3 _ 4 Tryd.underlying66 k0 k1 k2 k3 rfl rfl _ _ _ rfl HOS.out u9 _ _ HOV.out HAP.out.symm rfl qm.out qb.out qs ?_
                   intro s2 w2 os2 ov2 ap2 bl2)
      have B2 := Lib.hid (HBL.out.trans bl2)
      have qs2 : w.heap.size ≤ w2.heap.size := B2.out.size
      have HOS2 := Lib.hid os2
      have HOV2 := Lib.hid ov2
      have HAP2 := Lib.hid ap2
      clear os2 ov2 ap2 bl2 HOS HOV HAP
      refine (HC.out _ B2.out).mono ?_
      rintro e w1 ⟨rfl, rfl⟩
      go_wp2_with (at_builtin
                   refine wpList_append_one_two _ _ _ rfl (.tmp 41) (.tmp 47) _ rfl w.heap.size 47 i3 _ 4 Tryd.underlying66 k0 k1 k2 k3 rfl rfl _ _ _ rfl HOV2.out s2 _ _ HOS2.out HAP2.out.symm rfl qm.out qb.out qs2 ?_
                   intro v3 w3 ov3 os3 ap3 bl3)
      go_roundw
      case rel =>
        exact ⟨j + 1, by go_num, by omega, by rw [HS.out]; exact os3, by rw [HS.out]; exact ov3, ap3, B2.out.trans bl3⟩
      case measure => simp [intOf]; omega
    · obtain rfl : j = 16 := by omega
      have HOS := Lib.hid ows
      have HOV := Lib.hid owv
      have HAP := Lib.hid hap
      have HBL := Lib.hid bl
      clear ows owv hap bl
      go_wp2_with (fail)
      exact HQ.out _ _ _ _ _ _ _ _ _ _ _ _ _ _ _ _ _ _ _ _ _ _ _ _ HOS HOV HAP HBL
end Go.Proofs.YtmoffodmbbkolaaDoor
