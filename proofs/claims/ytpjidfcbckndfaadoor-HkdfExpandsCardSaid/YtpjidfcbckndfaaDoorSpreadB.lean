/- sha.spreadOut: the loop over the further words. No condition of its own. -/
import Derived.Test.YtpjidfcbckndfaaDoorSpreadA
import Derived.Test.YtpjidfcbckndfaaDoorTurned
namespace Go.Proofs.YtpjidfcbckndfaaDoor
open Go.RowKit

noncomputable def body_further : Code := (((Tryd.f34.body.map loopsOf).getD [])[1]?).getD .skip
def FurRel (ws : List Nat) (w : World) (S : Nat) (i : Value) (wr : World) : Prop :=
  ∃ k : Nat, i = .int .i64 (k : Int) ∧ 16 ≤ k ∧ k ≤ 64 ∧ Blk wr S 63 (wordsC (schedN (k - 16) ws)) ∧ Below S w wr
set_option maxRecDepth 100000 in
set_option maxHeartbeats 4000000 in
theorem further_loop (c0 c1 c2 c4 c5 c7 c8 c9 c10 c11 c12 c13 c14 c15 c16 c17 c18 c19 c20 c21 c22 c23 c24 c25 c26 c27 c28 c29 c30 c31 c32 c33 c34 c35 c36 c37 c38 c39 c40 c41 c42 c43 c44 c45 c46 c47 c48 c49 c50 c51 c52 c53 c54 c55 c56 c57 c58 c59 c60 c61 c62 c63 c64 c65 c66 c67 c68 c69 c70 c71 c72 c73 c74 c75 c76 c77 c78 c79 c80 c81 c82 c83 c84 c85 c86 c87 c88 c89 c90 : Value) (ws : List Nat) (HWS : Hid (ws.length = 16 ∧ ∀ x ∈ ws, x < 4294967296)) (w : World) (S : Nat) (h0 : Hid (Blk w S 63 (wordsC ws))) {Q : Exit → Act → World → Prop}
    (HQ : Hid (∀ (u7 u8 u9 u10 u47 u48 u49 u50 u51 u52 u53 u54 u55 u56 u57 u58 u59 u60 u61 u62 u63 u64 u65 u66 u67 u68 u69 u70 u71 u72 u73 u74 u75 u76 u77 u78 u79 u80 u81 u82 u83 u84 u85 u86 u87 u88 u89 : Value) (wx : World), Hid (Blk wx S 63 (wordsC (schedN 48 ws))) → Hid (Below S w wx) → Q (.exit 2) ⟨List.toArray (c0 :: c1 :: c2 :: (.pointer (some ⟨S, 0, none⟩)) :: c4 :: c5 :: (.int .i64 64) :: u7 :: u8 :: u9 :: u10 :: c11 :: c12 :: c13 :: c14 :: c15 :: c16 :: c17 :: c18 :: c19 :: c20 :: c21 :: c22 :: c23 :: c24 :: c25 :: c26 :: c27 :: c28 :: c29 :: c30 :: c31 :: c32 :: c33 :: c34 :: c35 :: c36 :: c37 :: c38 :: c39 :: c40 :: c41 :: c42 :: c43 :: c44 :: c45 :: c46 :: u47 :: u48 :: u49 :: u50 :: u51 :: u52 :: u53 :: u54 :: u55 :: u56 :: u57 :: u58 :: u59 :: u60 :: u61 :: u62 :: u63 :: u64 :: u65 :: u66 :: u67 :: u68 :: u69 :: u70 :: u71 :: u72 :: u73 :: u74 :: u75 :: u76 :: u77 :: u78 :: u79 :: u80 :: u81 :: u82 :: u83 :: u84 :: u85 :: u86 :: u87 :: u88 :: u89 :: c90 :: []), []⟩ wx)) :
    (Code.loop body_further).wp Tryd.prog Q ⟨List.toArray (c0 :: c1 :: c2 :: (.pointer (some ⟨S, 0, none⟩)) :: c4 :: c5 :: (.int .i64 16) :: c7 :: c8 :: c9 :: c10 :: c11 :: c12 :: c13 :: c14 :: c15 :: c16 :: c17 :: c18 :: c19 :: c20 :: c21 :: c22 :: c23 :: c24 :: c25 :: c26 :: c27 :: c28 :: c29 :: c30 :: c31 :: c32 :: c33 :: c34 :: c35 :: c36 :: c37 :: c38 :: c39 :: c40 :: c41 :: c42 :: c43 :: c44 :: c45 :: c46 :: c47 :: c48 :: c49 :: c50 :: c51 :: c52 :: c53 :: c54 :: c55 :: c56 :: c57 :: c58 :: c59 :: c60 :: c61 :: c62 :: c63 :: c64 :: c65 :: c66 :: c67 :: c68 :: c69 :: c70 :: c71 :: c72 :: c73 :: c74 :: c75 :: c76 :: c77 :: c78 :: c79 :: c80 :: c81 :: c82 :: c83 :: c84 :: c85 :: c86 :: c87 :: c88 :: c89 :: c90 :: []), []⟩ w := by
  unfold body_further
  conv => arg 2; arg 1; whnf
  go_loopw [6] (fun i wx => FurRel ws w S i wx) (fun i _ => 64 - (intOf i).toNat)
  case atStart => exact ⟨16, rfl, by omega, by omega, h0.out, Below.refl _ _⟩
  case round =>
    obtain ⟨k, rfl, hk1, hk2, hblk, bl⟩ := hrel
    by_cases hlt3 : k < 64
    · have hl3 : (schedN (k - 16) ws).length = k := by rw [schedN_length, HWS.out.1]; omega
      have hlt32 := schedN_lt HWS.out.2 (k - 16)
      obtain ⟨ds, hds⟩ : ∃ ds, ds = schedN (k - 16) ws := ⟨_, rfl⟩
      rw [← hds] at hl3 hlt32 hblk
      have HN : Hid (schedN (k + 1 - 16) ws = schedStep ds) := by
        show schedN (k + 1 - 16) ws = schedStep ds
        rw [show k + 1 - 16 = (k - 16) + 1 by omega, schedN, hds]
      have word : ∀ j, j < k → ∃ a : Nat, wr.cell? ⟨S, j, none⟩ = some (.int .u32 (a : Int)) ∧ (a : Int) ≤ 4294967295 ∧ ds.getD j 0 = a := fun j hj => by
        have hj' : j < ds.length := by omega
        refine ⟨ds[j], ?_, by have := hlt32 _ (List.getElem_mem hj'); omega, by simp [hj']⟩
        rw [hblk.cell j, wordsC_get hj']
        simp [hj']
      obtain ⟨a15, c15, b15, e15⟩ := word (k - 15) (by omega)
      obtain ⟨a2, c2, b2, e2⟩ := word (k - 2) (by omega)
      obtain ⟨a16, c16, b16, e16⟩ := word (k - 16) (by omega)
      obtain ⟨a7, c7, b7, e7⟩ := word (k - 7) (by omega)
      have HST : Hid (schedStep ds = ds ++ [(a16 + sg0 a15 + a7 + sg1 a2) % 4294967296]) := by
        show schedStep ds = _
        unfold schedStep
        rw [hl3, e15, e2, e16, e7]
      have cS : wr.cell? ⟨S, k, none⟩ = some (.int .u32 0) := by
        rw [hblk.cell k]
        unfold wordsC
        rw [List.getElem?_append_right (by simp [hl3]), List.length_map, hl3, Nat.sub_self, List.getElem?_replicate, if_pos (by omega)]
      have fS : wr.frozen? ⟨S, k, none⟩ = false := hblk.free k
      have HL3 := Lib.hid hl3
      have HB := Lib.hid hblk
      have HBL := Lib.hid bl
      have i15 : ((k : Int) - 15).toNat = k - 15 := by omega
      have i2 : ((k : Int) - 2).toNat = k - 2 := by omega
      have i16 : ((k : Int) - 16).toNat = k - 16 := by omega
      have i7 : ((k : Int) - 7).toNat = k - 7 := by omega
      have h1 : (16 : Int) ≤ k := by omega
      have h2 : (k : Int) < 64 := by omega
      have l15 : (k : Int) - 15 < 64 := by omega
      have l2 : (k : Int) - 2 < 64 := by omega
      have l16 : (k : Int) - 16 < 64 := by omega
      have l7 : (k : Int) - 7 < 64 := by omega
      have n15 : (15 : Int) ≤ k := by omega
      have n2 : (2 : Int) ≤ k := by omega
      have n7 : (7 : Int) ≤ k := by omega
      have T7 := Lib.hid fun w => turned_k a15 7 7 rfl w (by omega) (by omega)
      have T18 := Lib.hid fun w => turned_k a15 18 18 rfl w (by omega) (by omega)
      have T17 := Lib.hid fun w => turned_k a2 17 17 rfl w (by omega) (by omega)
      have T19 := Lib.hid fun w => turned_k a2 19 19 rfl w (by omega) (by omega)
      have E1 : bits .xor .u32 (bits .xor .u32 ((rotN 7 a15 : Nat) : Int) ((rotN 18 a15 : Nat) : Int)) ((a15 : Int) / 8) = ((sg0 a15 : Nat) : Int) := by rw [← sg0_bits (by omega), cutN_eq]; rfl
      have E2 : bits .xor .u32 (bits .xor .u32 ((rotN 17 a2 : Nat) : Int) ((rotN 19 a2 : Nat) : Int)) ((a2 : Int) / 1024) = ((sg1 a2 : Nat) : Int) := by rw [← sg1_bits (by omega), cutN_eq]; rfl
      clear hl3 hlt32 e15 e2 e16 e7 hds word hblk bl
      have w15 : IntKind.i64.wrap ((k : Int) - 15) = (k : Int) - 15 := IntWalk.i64_in _ (by omega)
      have w2 : IntKind.i64.wrap ((k : Int) - 2) = (k : Int) - 2 := IntWalk.i64_in _ (by clear w15; omega)
      have w16 : IntKind.i64.wrap ((k : Int) - 16) = (k : Int) - 16 := IntWalk.i64_in _ (by clear w15 w2; omega)
      have w7 : IntKind.i64.wrap ((k : Int) - 7) = (k : Int) - 7 := IntWalk.i64_in _ (by clear w15 w2 w16; omega)
      go_wp2_with (fail)
      go_quiet (fail)
      go_wp2_with (first
        | (go_at_call 35; with_reducible refine (T7.out _).mono ?_; rintro _ _ ⟨rfl, m1, rfl⟩)
        | (go_at_call 35; with_reducible refine (T18.out _).mono ?_; rintro _ _ ⟨rfl, m2, rfl⟩)
        | (go_at_call 35; with_reducible refine (T17.out _).mono ?_; rintro _ _ ⟨rfl, m3, rfl⟩)
        | (go_at_call 35; with_reducible refine (T19.out _).mono ?_; rintro _ _ ⟨rfl, m4, rfl⟩))
      obtain ⟨wa, hwa⟩ : ∃ W : World, W = wr.drewN (nq + m1 + m2 + m3 + m4) := ⟨_, rfl⟩
      have c16a : wa.cell? ⟨S, k - 16, none⟩ = some (.int .u32 (a16 : Int)) := hwa ▸ c16
      have c7a : wa.cell? ⟨S, k - 7, none⟩ = some (.int .u32 (a7 : Int)) := hwa ▸ c7
      have cSa : wa.cell? ⟨S, k, none⟩ = some (.int .u32 0) := hwa ▸ cS
      have fSa : wa.frozen? ⟨S, k, none⟩ = false := hwa ▸ fS
      have HBa : Hid (Blk wa S 63 (wordsC ds)) := Lib.hid (hwa ▸ HB.out.drewN _)
      have HLa : Hid (Below S w wa) := Lib.hid (hwa ▸ below_drewN HBL.out _)
      rw [← hwa]
      clear hwa c15 c2 c16 c7 cS fS HB HBL
      go_still_tail 15, (by kernel_rfl)
      change wpList _ _ _ _ _ wa.drew
      go_wp2_with (fail)
      go_roundw
      case rel =>
        clear w15 w2 w16 w7
        have e1 : ((a16 : Int) + (sg0 a15 : Nat) + (a7 : Int) + (sg1 a2 : Nat)) % 4294967296 = (((a16 + sg0 a15 + a7 + sg1 a2) % 4294967296 : Nat) : Int) := by omega
        rw [e1]
        refine ⟨k + 1, by go_num, by omega, by omega, ?_, (HLa.out.setCell (p := ⟨S, k, none⟩) (Nat.le_refl _) _).drew⟩
        have h := (HBa.out.set k (wv ((a16 + sg0 a15 + a7 + sg1 a2) % 4294967296))).drew
        have e := wordsC_set (ds := ds) (x := (a16 + sg0 a15 + a7 + sg1 a2) % 4294967296) (by rw [HL3.out]; omega)
        rw [HL3.out] at e
        rw [e, ← HST.out, ← HN.out] at h
        exact h
      case measure => simp [intOf]; omega
    · obtain rfl : k = 64 := by omega
      have HB := Lib.hid hblk
      have HBL := Lib.hid bl
      clear hblk bl
      go_wp2_with (fail)
      exact HQ.out _ _ _ _ _ _ _ _ _ _ _ _ _ _ _ _ _ _ _ _ _ _ _ _ _ _ _ _ _ _ _ _ _ _ _ _ _ _ _ _ _ _ _ _ _ _ _ _ HB HBL
end Go.Proofs.YtpjidfcbckndfaaDoor
