/- The loops of 'ShamirCombines' (law 8): what is asked of Refresh, share by share. Conditions: at most 8 shares, t at most 12, draws at most 300. -/
import Derived.Test.YtpegnafapjcanaaShamC
import Derived.Test.YtpegnafapjcanaaShLaw
import Derived.Test.YtpegnafapjcanaaSRef
import Derived.Test.YtpegnafapjcanaaSRefD
import Derived.Test.YtpegnafapjcanaaRfl
import Derived.Deep.Cut
namespace Go.Proofs.Ytpegnafapjcanaa.shamirCombines
open Go.RowKit

/-- A share's bytes, of which the first k have another's added. -/
def mixS (sh ot : List UInt8) (k : Nat) : List UInt8 := shX sh :: (List.range 32).map fun j => if j < k then shY ot j ^^^ shY sh j else shY ot j
theorem mixS_length (sh ot : List UInt8) (k : Nat) : (mixS sh ot k).length = 33 := by simp [mixS]
theorem mixS_end (sh ot : List UInt8) : mixS sh ot 32 = addY sh ot := by
  unfold mixS addY
  refine congrArg (shX sh :: ·) (List.map_congr_left fun j hj => ?_)
  rw [if_pos (List.mem_range.1 hj)]
theorem mixS_start (sh : List UInt8) (sec : List UInt8) (t : Nat) (draws : List UInt8) : mixS sh (shareB sec (shX sh) t draws) 0 = shareB sec (shX sh) t draws := by
  unfold mixS
  rw [show shareB sec (shX sh) t draws = shX sh :: (List.range 32).map fun i => ge (polL sec t draws i) (shX sh) from rfl]
  refine congrArg (shX sh :: ·) (List.map_congr_left fun j hj => ?_)
  rw [if_neg (by omega)]
  exact shareB_Y sec (shX sh) t draws (List.mem_range.1 hj)
theorem mixS_get (sh ot : List UInt8) {k : Nat} (hk : k < 32) : (mixS sh ot k)[k + 1]? = some (shY ot k) := by
  unfold mixS
  rw [List.getElem?_cons_succ, List.getElem?_map, List.getElem?_range hk]
  refine congrArg some ?_
  show (if k < k then _ else _) = _
  rw [if_neg (by omega)]
theorem mixS_set (sh ot : List UInt8) (k : Nat) : (mixS sh ot k).set (k + 1) (shY ot k ^^^ shY sh k) = mixS sh ot (k + 1) := by
  unfold mixS
  rw [List.set_cons_succ]
  congr 1
  have h := range_set (fun j => if j < k then shY ot j ^^^ shY sh j else shY ot j) (fun j => if j < k + 1 then shY ot j ^^^ shY sh j else shY ot j) 32 k (fun j _ hj => by
    have e : (j < k) = (j < k + 1) := by apply propext; omega
    simp only [e])
  rw [← show (if k < k + 1 then shY ot k ^^^ shY sh k else shY ot k) = shY ot k ^^^ shY sh k by rw [if_pos (by omega)]]
  exact h
def CmkRel (sh ot : List UInt8) (S : Nat) (w : World) (v : Value) (W : World) : Prop := ∃ k : Nat, v = .int .i64 (k : Int) ∧ k ≤ 32 ∧ Blk W S 31 ((mixS sh ot k).map bv) ∧ Sole w W S
noncomputable def body_cmk : Code := (((Try.f4.body.map loopsOf).getD [])[1]?).getD .skip
set_option maxRecDepth 100000 in
set_option maxHeartbeats 2000000 in
theorem cmk_loop (c1 c2 c3 c4 c5 c6 c7 c8 c9 c10 c11 c12 c16 c17 c18 c19 c20 c21 c22 c23 c24 c25 c26 c27 c28 c29 c30 c31 c32 c33 c34 c35 c36 c37 c38 c39 c40 c41 c42 c43 c44 c45 c46 c47 c48 c49 c50 c51 c52 c53 c54 c55 c56 c57 c58 c59 c60 c61 c62 c63 c64 c65 c66 c67 c68 c69 c70 c71 c72 c73 c74 c75 c76 c77 c78 c79 c80 c81 c82 c83 c84 c85 c86 c87 c88 c89 c90 c91 c92 c93 c94 c95 c96 c97 c98 c99 c100 c101 c102 c103 c104 c105 c106 c107 c108 c109 c110 c111 c112 c113 c114 c115 c116 c117 c118 c119 c120 c121 c122 c123 c124 c125 c126 c127 c128 c129 c130 c131 c132 c133 c134 c135 c136 c137 c138 c139 c140 c141 c142 c143 c144 : Value) (n i b off c S : Nat) (sh ot : List UInt8) (w : World) (hi : i < n) (hn : n ≤ 8) (hne : b ≠ S)
    (hc : Hid (∀ k, k < 32 → w.cell? ⟨b, off + i * 33 + (1 + k), none⟩ = some (.int .u8 ((shY sh k).toNat : Int)))) (h0 : Hid (Blk w S 31 ((mixS sh ot 0).map bv))) {Q : Exit → Act → World → Prop}
    (HQ : Hid (∀ (u15 u77 u78 u79 u80 u81 u82 u83 u84 u85 u86 u87 u88 u89 u90 u91 u92 u93 u94 u95 : Value) (wx : World), Hid (Blk wx S 31 ((addY sh ot).map bv)) → Hid (Sole w wx S) → Q (.exit 2) ⟨List.toArray ((.slice (some ⟨b, off, none⟩) n c) :: c1 :: c2 :: c3 :: c4 :: c5 :: c6 :: c7 :: c8 :: c9 :: c10 :: c11 :: c12 :: (.int .i64 (i : Int)) :: (.pointer (some ⟨S, 0, none⟩)) :: u15 :: c16 :: c17 :: c18 :: c19 :: c20 :: c21 :: c22 :: c23 :: c24 :: c25 :: c26 :: c27 :: c28 :: c29 :: c30 :: c31 :: c32 :: c33 :: c34 :: c35 :: c36 :: c37 :: c38 :: c39 :: c40 :: c41 :: c42 :: c43 :: c44 :: c45 :: c46 :: c47 :: c48 :: c49 :: c50 :: c51 :: c52 :: c53 :: c54 :: c55 :: c56 :: c57 :: c58 :: c59 :: c60 :: c61 :: c62 :: c63 :: c64 :: c65 :: c66 :: c67 :: c68 :: c69 :: c70 :: c71 :: c72 :: c73 :: c74 :: c75 :: c76 :: u77 :: u78 :: u79 :: u80 :: u81 :: u82 :: u83 :: u84 :: u85 :: u86 :: u87 :: u88 :: u89 :: u90 :: u91 :: u92 :: u93 :: u94 :: u95 :: c96 :: c97 :: c98 :: c99 :: c100 :: c101 :: c102 :: c103 :: c104 :: c105 :: c106 :: c107 :: c108 :: c109 :: c110 :: c111 :: c112 :: c113 :: c114 :: c115 :: c116 :: c117 :: c118 :: c119 :: c120 :: c121 :: c122 :: c123 :: c124 :: c125 :: c126 :: c127 :: c128 :: c129 :: c130 :: c131 :: c132 :: c133 :: c134 :: c135 :: c136 :: c137 :: c138 :: c139 :: c140 :: c141 :: c142 :: c143 :: c144 :: []), []⟩ wx)) :
    (Code.loop body_cmk).wp Try.prog Q ⟨List.toArray ((.slice (some ⟨b, off, none⟩) n c) :: c1 :: c2 :: c3 :: c4 :: c5 :: c6 :: c7 :: c8 :: c9 :: c10 :: c11 :: c12 :: (.int .i64 (i : Int)) :: (.pointer (some ⟨S, 0, none⟩)) :: (.int .i64 0) :: c16 :: c17 :: c18 :: c19 :: c20 :: c21 :: c22 :: c23 :: c24 :: c25 :: c26 :: c27 :: c28 :: c29 :: c30 :: c31 :: c32 :: c33 :: c34 :: c35 :: c36 :: c37 :: c38 :: c39 :: c40 :: c41 :: c42 :: c43 :: c44 :: c45 :: c46 :: c47 :: c48 :: c49 :: c50 :: c51 :: c52 :: c53 :: c54 :: c55 :: c56 :: c57 :: c58 :: c59 :: c60 :: c61 :: c62 :: c63 :: c64 :: c65 :: c66 :: c67 :: c68 :: c69 :: c70 :: c71 :: c72 :: c73 :: c74 :: c75 :: c76 :: c77 :: c78 :: c79 :: c80 :: c81 :: c82 :: c83 :: c84 :: c85 :: c86 :: c87 :: c88 :: c89 :: c90 :: c91 :: c92 :: c93 :: c94 :: c95 :: c96 :: c97 :: c98 :: c99 :: c100 :: c101 :: c102 :: c103 :: c104 :: c105 :: c106 :: c107 :: c108 :: c109 :: c110 :: c111 :: c112 :: c113 :: c114 :: c115 :: c116 :: c117 :: c118 :: c119 :: c120 :: c121 :: c122 :: c123 :: c124 :: c125 :: c126 :: c127 :: c128 :: c129 :: c130 :: c131 :: c132 :: c133 :: c134 :: c135 :: c136 :: c137 :: c138 :: c139 :: c140 :: c141 :: c142 :: c143 :: c144 :: []), []⟩ w := by
  have iI : (i : Int) < n := by omega
  have nI : (n : Int) ≤ 8 := by omega
  have HNE := Lib.hid hne
  clear hi hn hne
  unfold body_cmk
  conv => arg 2; arg 1; whnf
  go_loopw [15] (fun v wx => CmkRel sh ot S w v wx) (fun v _ => 32 - (intOf v).toNat)
  case atStart => exact ⟨0, rfl, by omega, h0.out, Sole.refl _ _⟩
  case round =>
    obtain ⟨k, rfl, hk, hblk, so⟩ := hrel
    by_cases hlt : k < 32
    · have hI : (k : Int) < 32 := by omega
      obtain ⟨y1, h1⟩ : ∃ y, y = shY ot k := ⟨_, rfl⟩
      obtain ⟨y2, h2⟩ : ∃ y, y = shY sh k := ⟨_, rfl⟩
      have cA : ∀ m, (wr.drewN m).cell? ⟨S, 1 + k, none⟩ = some (.int .u8 (y1.toNat : Int)) := fun m => by
        rw [Nat.add_comm 1 k, (hblk.drewN m).cell, List.getElem?_map, mixS_get sh ot hlt, h1]
        rfl
      have cB : wr.cell? ⟨b, off + i * 33 + 1 + k, none⟩ = some (.int .u8 (y2.toNat : Int)) := by
        rw [so.cell (p := ⟨b, off + i * 33 + 1 + k, none⟩) HNE.out, h2, ← hc.out k hlt, Nat.add_assoc]
      have HST : Hid (∀ nq, Blk ((wr.drewN nq).setCell ⟨S, 1 + k, none⟩ (.int .u8 ((y1 ^^^ y2).toNat : Int))) S 31 ((mixS sh ot (k + 1)).map bv)) := Lib.hid fun nq => by
        rw [Nat.add_comm 1 k]
        have h := (hblk.drewN nq).set (k + 1) (bv (y1 ^^^ y2))
        rw [← List.map_set, h1, h2, mixS_set] at h
        rw [h1, h2]
        exact h
      have HSO : Hid (∀ nq, Sole w ((wr.drewN nq).setCell ⟨S, 1 + k, none⟩ (.int .u8 ((y1 ^^^ y2).toNat : Int))) S) := Lib.hid fun nq => so.trans (sole_set_drewN wr S (1 + k) nq _)
      have f6 : ∀ nq, (wr.drewN nq).frozen? ⟨S, 1 + k, none⟩ = false := fun nq => (hblk.drewN nq).free (1 + k)
      have x1 := bx_u8 y1 y2
      have HLT := Lib.hid hlt
      clear h1 h2 hblk so hk hlt
      go_wp2_with (fail)
      refine wp_quiet_tail 15 (by kernel_rfl) (by kernel_rfl) (by kernel_rfl) (by kernel_rfl) (by kernel_rfl) (by kernel_rfl) (by kernel_rfl) (by kernel_rfl) ?_
      simp only [List.take_succ_cons, List.take_zero, List.drop_succ_cons, List.drop_zero]
      repeat (go_big_quiet_step (fail))
      refine wpQuiet_nil ?_
      intro wq hwq
      obtain ⟨nq, rfl⟩ := hwq
      go_wp2_with (fail)
      have hlt := HLT.out
      refine ⟨⟨k + 1, by go_num, by omega, HST.out nq, HSO.out nq⟩, by simp [intOf]; omega⟩
    · obtain rfl : k = 32 := by omega
      have HB : Hid (Blk wr S 31 ((addY sh ot).map bv)) := Lib.hid (by rw [← mixS_end]; exact hblk)
      have HL := Lib.hid so
      clear hblk so hk hlt
      go_wp2_with (fail)
      exact HQ.out _ _ _ _ _ _ _ _ _ _ _ _ _ _ _ _ _ _ _ _ _ HB HL
/-- What the first i shares are refreshed to. -/
def refI (L : List (List UInt8)) (t : Nat) (draws : List UInt8) (i : Nat) : List (List UInt8) := (List.range i).map fun j => addY (L.getD j []) (shareB zeros32 (shX (L.getD j [])) t draws)
theorem refI_succ (L : List (List UInt8)) (t : Nat) (draws : List UInt8) (i : Nat) : refI L t draws (i + 1) = refI L t draws i ++ [addY (L.getD i []) (shareB zeros32 (shX (L.getD i [])) t draws)] := by
  unfold refI
  rw [List.range_succ, List.map_append]
  rfl
theorem refI_length (L : List (List UInt8)) (t : Nat) (draws : List UInt8) (i : Nat) : (refI L t draws i).length = i := by simp [refI]
theorem refI_all (L : List (List UInt8)) (t : Nat) (draws : List UInt8) : refI L t draws L.length = refrB L t draws := by
  apply List.ext_getElem
  · rw [refI_length, refrB_length]
  · intro i h1 h2
    have hi : i < L.length := by rw [refI_length] at h1; exact h1
    have e : L.getD i [] = L[i] := by
      rw [List.getD, List.getElem?_eq_getElem hi]
      rfl
    have e1 : (refI L t draws L.length)[i] = addY (L.getD i []) (shareB zeros32 (shX (L.getD i [])) t draws) := by simp [refI]
    have e2 : (refrB L t draws)[i] = addY L[i] (shareB zeros32 (shX L[i]) t draws) := by simp [refrB]
    rw [e1, e2, e]
theorem info_a32b : Try.prog.built 22 [] = some (zeros32.map bv).toArray := by kernel_rfl
def CmiRel (L : List (List UInt8)) (t : Nat) (draws : List UInt8) (w : World) (s v : Value) (W : World) : Prop :=
  ∃ i : Nat, v = .int .i64 (i : Int) ∧ i ≤ L.length ∧ OwnF 33 W w.heap.size 31 s (refI L t draws i) ∧ Below w.heap.size w W
noncomputable def body_cmi : Code := (((Try.f4.body.map loopsOf).getD [])[0]?).getD .skip
set_option maxRecDepth 100000 in
set_option maxHeartbeats 4000000 in
theorem cmi_loop (c3 c4 c5 c6 c7 c8 c9 c10 c11 c14 c15 c16 c17 c18 c19 c20 c21 c22 c23 c24 c25 c26 c27 c28 c29 c30 c31 c32 c33 c34 c35 c36 c37 c38 c39 c40 c41 c42 c43 c44 c45 c46 c47 c48 c49 c50 c51 c52 c53 c54 c55 c56 c57 c58 c59 c60 c61 c62 c63 c64 c65 c66 c67 c68 c69 c70 c71 c72 c73 c74 c75 c76 c77 c78 c79 c80 c81 c82 c83 c84 c85 c86 c87 c88 c89 c90 c91 c92 c93 c94 c95 c96 c97 c98 c99 c100 c101 c102 c103 c104 c105 c106 c107 c108 c109 c110 c111 c112 c113 c114 c115 c116 c117 c118 c119 c120 c121 c122 c123 c124 c125 c126 c127 c128 c129 c130 c131 c132 c133 c134 c135 c136 c137 c138 c139 c140 c141 c142 c143 c144 : Value) (L : List (List UInt8)) (t c cd : Nat) (A Ad : Option Addr) (draws : List UInt8) (w : World) (h8 : L.length ≤ 8) (ht : 1 ≤ t) (ht2 : t ≤ 12) (hd : draws.length ≤ 300)
    (hL : Hid (Rf 33 w (.slice A L.length c) L)) (hr : Hid (Rd w (.slice Ad draws.length cd) draws)) {Q : Exit → Act → World → Prop}
    (HQ : Hid (∀ (u13 u14 u15 u62 u63 u64 u65 u66 u67 u68 u69 u70 u71 u72 u73 u74 u75 u76 u77 u78 u79 u80 u81 u82 u83 u84 u85 u86 u87 u88 u89 u90 u91 u92 u93 u94 u95 u96 u97 u98 u99 s : Value) (wx : World), Hid (Rf 33 wx s (refrB L t draws)) → Hid (Below w.heap.size w wx) → Q (.exit 0) ⟨List.toArray ((.slice A L.length c) :: (.int .i64 (t : Int)) :: (.slice Ad draws.length cd) :: c3 :: c4 :: c5 :: c6 :: c7 :: c8 :: c9 :: c10 :: c11 :: s :: u13 :: u14 :: u15 :: c16 :: c17 :: c18 :: c19 :: c20 :: c21 :: c22 :: c23 :: c24 :: c25 :: c26 :: c27 :: c28 :: c29 :: c30 :: c31 :: c32 :: c33 :: c34 :: c35 :: c36 :: c37 :: c38 :: c39 :: c40 :: c41 :: c42 :: c43 :: c44 :: c45 :: c46 :: c47 :: c48 :: c49 :: c50 :: c51 :: c52 :: c53 :: c54 :: c55 :: c56 :: c57 :: c58 :: c59 :: c60 :: c61 :: u62 :: u63 :: u64 :: u65 :: u66 :: u67 :: u68 :: u69 :: u70 :: u71 :: u72 :: u73 :: u74 :: u75 :: u76 :: u77 :: u78 :: u79 :: u80 :: u81 :: u82 :: u83 :: u84 :: u85 :: u86 :: u87 :: u88 :: u89 :: u90 :: u91 :: u92 :: u93 :: u94 :: u95 :: u96 :: u97 :: u98 :: u99 :: c100 :: c101 :: c102 :: c103 :: c104 :: c105 :: c106 :: c107 :: c108 :: c109 :: c110 :: c111 :: c112 :: c113 :: c114 :: c115 :: c116 :: c117 :: c118 :: c119 :: c120 :: c121 :: c122 :: c123 :: c124 :: c125 :: c126 :: c127 :: c128 :: c129 :: c130 :: c131 :: c132 :: c133 :: c134 :: c135 :: c136 :: c137 :: c138 :: c139 :: c140 :: c141 :: c142 :: c143 :: c144 :: []), []⟩ wx)) :
    (Code.loop body_cmi).wp Try.prog Q ⟨List.toArray ((.slice A L.length c) :: (.int .i64 (t : Int)) :: (.slice Ad draws.length cd) :: c3 :: c4 :: c5 :: c6 :: c7 :: c8 :: c9 :: c10 :: c11 :: (.slice none 0 0) :: (.int .i64 0) :: c14 :: c15 :: c16 :: c17 :: c18 :: c19 :: c20 :: c21 :: c22 :: c23 :: c24 :: c25 :: c26 :: c27 :: c28 :: c29 :: c30 :: c31 :: c32 :: c33 :: c34 :: c35 :: c36 :: c37 :: c38 :: c39 :: c40 :: c41 :: c42 :: c43 :: c44 :: c45 :: c46 :: c47 :: c48 :: c49 :: c50 :: c51 :: c52 :: c53 :: c54 :: c55 :: c56 :: c57 :: c58 :: c59 :: c60 :: c61 :: c62 :: c63 :: c64 :: c65 :: c66 :: c67 :: c68 :: c69 :: c70 :: c71 :: c72 :: c73 :: c74 :: c75 :: c76 :: c77 :: c78 :: c79 :: c80 :: c81 :: c82 :: c83 :: c84 :: c85 :: c86 :: c87 :: c88 :: c89 :: c90 :: c91 :: c92 :: c93 :: c94 :: c95 :: c96 :: c97 :: c98 :: c99 :: c100 :: c101 :: c102 :: c103 :: c104 :: c105 :: c106 :: c107 :: c108 :: c109 :: c110 :: c111 :: c112 :: c113 :: c114 :: c115 :: c116 :: c117 :: c118 :: c119 :: c120 :: c121 :: c122 :: c123 :: c124 :: c125 :: c126 :: c127 :: c128 :: c129 :: c130 :: c131 :: c132 :: c133 :: c134 :: c135 :: c136 :: c137 :: c138 :: c139 :: c140 :: c141 :: c142 :: c143 :: c144 :: []), []⟩ w := by
  obtain ⟨ish, his, hisz, hiss, hisb⟩ := info_of info_share
  have nI : (L.length : Int) ≤ 8 := by omega
  have H8 := Lib.hid h8
  have HT := Lib.hid ht
  have HT2 := Lib.hid ht2
  have HD := Lib.hid hd
  obtain ⟨_, _, he, _, _, hA⟩ := hL.out.form
  have HA := Lib.hid hA
  simp only [Value.slice.injEq] at he
  obtain ⟨he, -, -⟩ := he
  subst he
  have HIS : Hid ((Try.prog.info? 31).map (·.size) = some 33) := Lib.hid (size_of info_share)
  have HZ : Hid ((Try.prog.info? 31).bind (·.zero) = some (.agg (zeros33.map bv).toArray)) := Lib.hid (zero_of info_share)
  have HZL : Hid ((zeros33.map bv).length = 33) := Lib.hid (by simp [zeros33])
  have HB0 : Hid (Try.prog.built 22 [] = some (zeros32.map bv).toArray) := Lib.hid info_a32b
  clear h8 ht ht2 hd hA
  unfold body_cmi
  conv => arg 2; arg 1; whnf
  go_loopw [12, 13] (fun s v wx => CmiRel L t draws w s v wx) (fun _ v _ => L.length - (intOf v).toNat)
  case atStart => exact ⟨0, rfl, by omega, OwnF.nil _ _ _ _, Below.refl _ _⟩
  case round =>
    obtain ⟨i, rfl, hi, own, bl⟩ := hrel
    by_cases hlt : i < L.length
    · have hI : (i : Int) < L.length := by omega
      obtain ⟨b, off, rfl, hb1, hb3⟩ := HA.out (by omega)
      obtain ⟨sh, hsh⟩ : ∃ sh, sh = L.getD i [] := ⟨_, rfl⟩
      obtain ⟨x, hx⟩ : ∃ x, x = shX sh := ⟨_, rfl⟩
      have CE : Hid (∀ W, Below w.heap.size w W → ∀ j, j < 33 → W.cell? ⟨b, off + i * 33 + j, none⟩ = some (bv (sh.getD j 0))) := Lib.hid fun W hW j hj => by
        rw [hsh]
        exact (hW.cell (p := ⟨b, off + i * 33 + j, none⟩) hb1).trans (hb3 i j hlt hj)
      have cx : wr.cell? ⟨b, off + i * 33, none⟩ = some (.int .u8 (x.toNat : Int)) := by
        have h := CE.out wr bl 0 (by decide)
        rw [hx]
        exact h
      obtain ⟨ot, hot⟩ : ∃ ot, ot = shareB zeros32 x t draws := ⟨_, rfl⟩
      have OTL : Hid ((ot.map bv).length = 33) := Lib.hid (by rw [List.length_map, hot, shareB_length])
      have HMX : Hid (ot = mixS sh ot 0) := Lib.hid (by rw [hot, hx, mixS_start])
      have HSH : Hid (Calls Try.prog 10 #[.agg (zeros32.map bv).toArray, .int .u8 (x.toNat : Int), .int .i64 (t : Int), .slice Ad draws.length cd] wr fun e W' => e = .returned (.agg (ot.map bv).toArray) ∧ Below wr.heap.size wr W') := Lib.hid (by
        rw [hot]
        exact refShare_any zeros32 x t (.slice Ad draws.length cd) draws wr (by simp [zeros32]) HT.out (by have := HT2.out; omega) (hr.out.below bl) (by have := HD.out; omega))
      obtain ⟨ad, had⟩ : ∃ ad, ad = addY sh ot := ⟨_, rfl⟩
      have ADL : Hid (ad.length = 33) := Lib.hid (by rw [had, addY_length])
      have ADM : Hid ((ad.map bv).length = 33) := Lib.hid (by rw [List.length_map]; exact ADL.out)
      have HAD := Lib.hid had
      have ER : Hid (refI L t draws i ++ [ad] = refI L t draws (i + 1)) := Lib.hid (by rw [refI_succ, had, hot, hx, hsh])
      have NR : Hid ((refI L t draws i).length + 1 ≤ maxLen ∧ ((refI L t draws i).length + 1) * 33 ≤ 140737488355328) := Lib.hid (by rw [refI_length]; unfold maxLen; omega)
      have HI := Lib.hid hlt
      have OW := Lib.hid own
      have BL := Lib.hid bl
      have HB1 := Lib.hid hb1
      clear own bl hsh hx hot had hlt hi hb1 hb3
      go_wp2_with (first
        | refine wpList_build_is rfl 22 _ rfl _ rfl _ HB0.out ?_)
      refine HSH.out.mono ?_
      rintro e w1 ⟨rfl, hbe⟩
      have T1 : Hid (Below w.heap.size w w1) := Lib.hid (BL.out.trans (hbe.mono BL.out.size))
      have OW1 : Hid (OwnF 33 w1 w.heap.size 31 u12 (refI L t draws i)) := Lib.hid (OW.out.lain hbe)
      clear hbe OW BL HSH
      obtain ⟨W2, hW2⟩ : ∃ W : World, W = w1.alloc (.cells (zeros33.map bv).toArray 31) := ⟨_, rfl⟩
      have K2 : Hid (Blk W2 w1.heap.size 31 (zeros33.map bv)) := Lib.hid (by rw [hW2]; exact Blk.made _ _ _)
      have L2 : Hid (Below w1.heap.size w1 W2) := Lib.hid (by rw [hW2]; exact (Below.refl _ _).alloc (Nat.le_refl _) _)
      go_upto_region 17 with (first
        | (refine wpList_alloc_z rfl 31 rfl _ HZ.out w1.heap.size rfl ?_
           rw [← hW2])
        | (refine wpList_store_blk rfl 31 _ _ rfl w1.heap.size 31 _ K2.out (ot.map bv) rfl rfl (by rw [OTL.out, HZL.out]) (by rw [OTL.out]; exact HIS.out) (bv_one _) ?_
           intro w3 hb3 hs3
           have K3 := Lib.hid hb3
           have S3 := Lib.hid hs3
           clear hb3 hs3))
      have L3 : Hid (Below w1.heap.size w1 w3) := Lib.hid (L2.out.trans S3.out.below)
      have T3 : Hid (Below w.heap.size w w3) := Lib.hid (T1.out.trans (L3.out.mono T1.out.size))
      have K3' : Hid (Blk w3 w1.heap.size 31 ((mixS sh ot 0).map bv)) := Lib.hid (by rw [← HMX.out]; exact K3.out)
      have HNE : Hid (b ≠ w1.heap.size) := Lib.hid (by have := HB1.out; have := T1.out.size; omega)
      clear hW2 K2 L2 K3 S3
      go_wp2_with (fail)
      refine cmk_loop _ _ _ _ _ _ _ _ _ _ _ _ _ _ _ _ _ _ _ _ _ _ _ _ _ _ _ _ _ _ _ _ _ _ _ _ _ _ _ _ _ _ _ _ _ _ _ _ _ _ _ _ _ _ _ _ _ _ _ _ _ _ _ _ _ _ _ _ _ _ _ _ _ _ _ _ _ _ _ _ _ _ _ _ _ _ _ _ _ _ _ _ _ _ _ _ _ _ _ _ _ _ _ _ _ _ _ _ _ _ _ _ _ _ _ _ _ _ _ _ _ _ _ _ _ _ _ _ _ _ _ _ _ _ _ _ _ _ _ _ _ L.length i b off c w1.heap.size sh ot w3 HI.out H8.out HNE.out (Lib.hid fun k hk => CE.out w3 T3.out (1 + k) (by omega) |>.trans (by rw [Nat.add_comm 1 k]; rfl)) K3' (Lib.hid ?_)
      intro u15 u77 u78 u79 u80 u81 u82 u83 u84 u85 u86 u87 u88 u89 u90 u91 u92 u93 u94 u95 w4 K4' S4
      have K4 : Hid (Blk w4 w1.heap.size 31 (ad.map bv)) := Lib.hid (by rw [HAD.out]; exact K4'.out)
      have L4 : Hid (Below w1.heap.size w1 w4) := Lib.hid (L3.out.trans S4.out.below)
      have T4 : Hid (Below w.heap.size w w4) := Lib.hid (T1.out.trans (L4.out.mono T1.out.size))
      have OW4 : Hid (OwnF 33 w4 w.heap.size 31 u12 (refI L t draws i)) := Lib.hid (OW1.out.lain L4.out)
      clear L3 T3 K3' K4' S4 L4 OW1 T1
      go_wp2_with (first
        | refine wpList_load_blk rfl 31 (.tmp 14) rfl w1.heap.size rfl 31 (ad.map bv) _ K4.out Try.underlying31 rfl (by rw [ADM.out]; exact HIS.out) ?_
        | refine wpList_build_el rfl 26 31 _ rfl ish _ 33 Try.underlying26 his hisz hiss (by decide) (by decide) ad ADL.out rfl ?_
        | (at_builtin
           refine wpList_append_el _ ad _ rfl _ _ _ rfl w.heap.size 31 ish _ 33 33 Try.underlying26 his hisz hiss hisb (by simp [Value.cells, zeros33]) (by decide) _ (refI L t draws i) rfl OW4.out ADL.out rfl NR.out.1 NR.out.2 T4.out.size ?_
           intro v5 w5 own5 nx5
           have OW5 : Hid (OwnF 33 w5 w.heap.size 31 v5 (refI L t draws (i + 1))) := Lib.hid (by rw [← ER.out]; exact own5)
           have T5 : Hid (Below w.heap.size w w5) := Lib.hid (T4.out.trans nx5.below)
           clear own5 nx5))
      have hi := HI.out
      refine ⟨⟨i + 1, by go_num, by omega, OW5.out, T5.out⟩, by simp [intOf]; omega⟩
    · obtain rfl : i = L.length := by omega
      have HR : Hid (Rf 33 wr u12 (refrB L t draws)) := Lib.hid (by rw [← refI_all]; exact own.rf)
      have BL := Lib.hid bl
      clear own bl hlt hi
      go_wp2_with (fail)
      exact HQ.out _ _ _ _ _ _ _ _ _ _ _ _ _ _ _ _ _ _ _ _ _ _ _ _ _ _ _ _ _ _ _ _ _ _ _ _ _ _ _ _ _ _ _ HR BL
end Go.Proofs.Ytpegnafapjcanaa.shamirCombines
