/- Part 7 of the words that the laws share: SpreadB, Spread, ThroughA. No condition of its own: each theorem says its own. -/
import Derived.Test.YtnaccngcpjkmbaaDoorPart6
import Derived.Test.YtnaccngcpjkmbaaDoorPart5

/- sha.spreadOut: the loop over the further words. No condition of its own. -/
namespace Go.Proofs.YtnaccngcpjkmbaaDoor
open Go.RowKit

noncomputable def body_further : Code := (((Tryd.f75.body.map loopsOf).getD [])[1]?).getD .skip
def FurRel (ws : List Nat) (w : World) (S : Nat) (i : Value) (wr : World) : Prop :=
  ∃ k : Nat, i = .int .i64 (k : Int) ∧ 16 ≤ k ∧ k ≤ 64 ∧ Blk wr S 121 (wordsC (schedN (k - 16) ws)) ∧ Below S w wr
set_option maxRecDepth 100000 in
set_option maxHeartbeats 4000000 in
theorem further_loop (c0 c1 c2 c4 c5 c7 c8 c9 c10 c11 c12 c13 c14 c15 c16 c17 c18 c19 c20 c21 c22 c23 c24 c25 c26 c27 c28 c29 c30 c31 c32 c33 c34 c35 c36 c37 c38 c39 c40 c41 c42 c43 c44 c45 c46 c47 c48 c49 c50 c51 c52 c53 c54 c55 c56 c57 c58 c59 c60 c61 c62 c63 c64 c65 c66 c67 c68 c69 c70 c71 c72 c73 c74 c75 c76 c77 c78 c79 c80 c81 c82 c83 c84 c85 c86 c87 c88 c89 c90 : Value) (ws : List Nat) (HWS : Hid (ws.length = 16 ∧ ∀ x ∈ ws, x < 4294967296)) (w : World) (S : Nat) (h0 : Hid (Blk w S 121 (wordsC ws))) {Q : Exit → Act → World → Prop}
    (HQ : Hid (∀ (u7 u8 u9 u10 u47 u48 u49 u50 u51 u52 u53 u54 u55 u56 u57 u58 u59 u60 u61 u62 u63 u64 u65 u66 u67 u68 u69 u70 u71 u72 u73 u74 u75 u76 u77 u78 u79 u80 u81 u82 u83 u84 u85 u86 u87 u88 u89 : Value) (wx : World), Hid (Blk wx S 121 (wordsC (schedN 48 ws))) → Hid (Below S w wx) → Q (.exit 2) ⟨List.toArray (c0 :: c1 :: c2 :: (.pointer (some ⟨S, 0, none⟩)) :: c4 :: c5 :: (.int .i64 64) :: u7 :: u8 :: u9 :: u10 :: c11 :: c12 :: c13 :: c14 :: c15 :: c16 :: c17 :: c18 :: c19 :: c20 :: c21 :: c22 :: c23 :: c24 :: c25 :: c26 :: c27 :: c28 :: c29 :: c30 :: c31 :: c32 :: c33 :: c34 :: c35 :: c36 :: c37 :: c38 :: c39 :: c40 :: c41 :: c42 :: c43 :: c44 :: c45 :: c46 :: u47 :: u48 :: u49 :: u50 :: u51 :: u52 :: u53 :: u54 :: u55 :: u56 :: u57 :: u58 :: u59 :: u60 :: u61 :: u62 :: u63 :: u64 :: u65 :: u66 :: u67 :: u68 :: u69 :: u70 :: u71 :: u72 :: u73 :: u74 :: u75 :: u76 :: u77 :: u78 :: u79 :: u80 :: u81 :: u82 :: u83 :: u84 :: u85 :: u86 :: u87 :: u88 :: u89 :: c90 :: []), []⟩ wx)) :
    (Code.loop body_further).wp Tryd.prog Q ⟨List.toArray (c0 :: c1 :: c2 :: (.pointer (some ⟨S, 0, none⟩)) :: c4 :: c5 :: (.int .i64 16) :: c7 :: c8 :: c9 :: c10 :: c11 :: c12 :: c13 :: c14 :: c15 :: c16 :: c17 :: c18 :: c19 :: c20 :: c21 :: c22 :: c23 :: c24 :: c25 :: c26 :: c27 :: c28 :: c29 :: c30 :: c31 :: c32 :: c33 :: c34 :: c35 :: c36 :: c37 :: c38 :: c39 :: c40 :: c41 :: c42 :: c43 :: c44 :: c45 :: c46 :: c47 :: c48 :: c49 :: c50 :: c51 :: c52 :: c53 :: c54 :: c55 :: c56 :: c57 :: c58 :: c59 :: c60 :: c61 :: c62 :: c63 :: c64 :: c65 :: c66 :: c67 :: c68 :: c69 :: c70 :: c71 :: c72 :: c73 :: c74 :: c75 :: c76 :: c77 :: c78 :: c79 :: c80 :: c81 :: c82 :: c83 :: c84 :: c85 :: c86 :: c87 :: c88 :: c89 :: c90 :: []), []⟩ w := by
  unfold body_further
  conv => arg 2; arg 1; whnf
  go_loopw [6] (fun i wx => FurRel ws w S i wx) (fun i _ => 64 - (intOf i).toNat)
  case atStart => exact ⟨16, rfl, by omega, by omega, h0.out, Below.refl _ _⟩
  case round =>
    obtain ⟨k, rfl, hk1, hk2, hblk, bl⟩ := hrel
    by_cases hlt3 : k < 64
    · have hl3 : (schedN (k - 16) ws).length = k := by rw [schedN_length, HWS.out.1]; omega
      have hlt32 := schedN_lt HWS.out.2 (k - 16)
      obtain ⟨ds, hds⟩ : ∃ ds, ds = schedN (k - 16) ws := ⟨_, rfl⟩
      rw [← hds] at hl3 hlt32 hblk
      have HN : Hid (schedN (k + 1 - 16) ws = schedStep ds) := by
        show schedN (k + 1 - 16) ws = schedStep ds
        rw [show k + 1 - 16 = (k - 16) + 1 by omega, schedN, hds]
      have word : ∀ j, j < k → ∃ a : Nat, wr.cell? ⟨S, j, none⟩ = some (.int .u32 (a : Int)) ∧ (a : Int) ≤ 4294967295 ∧ ds.getD j 0 = a := fun j hj => by
        have hj' : j < ds.length := by omega
        refine ⟨ds[j], ?_, by have := hlt32 _ (List.getElem_mem hj'); omega, by simp [hj']⟩
        rw [hblk.cell j, wordsC_get hj']
        simp [hj']
      obtain ⟨a15, c15, b15, e15⟩ := word (k - 15) (by omega)
      obtain ⟨a2, c2, b2, e2⟩ := word (k - 2) (by omega)
      obtain ⟨a16, c16, b16, e16⟩ := word (k - 16) (by omega)
      obtain ⟨a7, c7, b7, e7⟩ := word (k - 7) (by omega)
      have HST : Hid (schedStep ds = ds ++ [(a16 + sg0 a15 + a7 + sg1 a2) % 4294967296]) := by
        show schedStep ds = _
        unfold schedStep
        rw [hl3, e15, e2, e16, e7]
      have cS : wr.cell? ⟨S, k, none⟩ = some (.int .u32 0) := by
        rw [hblk.cell k]
        unfold wordsC
        rw [List.getElem?_append_right (by simp [hl3]), List.length_map, hl3, Nat.sub_self, List.getElem?_replicate, if_pos (by omega)]
      have fS : wr.frozen? ⟨S, k, none⟩ = false := hblk.free k
      have HL3 := Lib.hid hl3
      have HB := Lib.hid hblk
      have HBL := Lib.hid bl
      have i15 : ((k : Int) - 15).toNat = k - 15 := by omega
      have i2 : ((k : Int) - 2).toNat = k - 2 := by omega
      have i16 : ((k : Int) - 16).toNat = k - 16 := by omega
      have i7 : ((k : Int) - 7).toNat = k - 7 := by omega
      have h1 : (16 : Int) ≤ k := by omega
      have h2 : (k : Int) < 64 := by omega
      have l15 : (k : Int) - 15 < 64 := by omega
      have l2 : (k : Int) - 2 < 64 := by omega
      have l16 : (k : Int) - 16 < 64 := by omega
      have l7 : (k : Int) - 7 < 64 := by omega
      have n15 : (15 : Int) ≤ k := by omega
      have n2 : (2 : Int) ≤ k := by omega
      have n7 : (7 : Int) ≤ k := by omega
      have T7 := Lib.hid fun w => turned_k a15 7 7 rfl w (by omega) (by omega)
      have T18 := Lib.hid fun w => turned_k a15 18 18 rfl w (by omega) (by omega)
      have T17 := Lib.hid fun w => turned_k a2 17 17 rfl w (by omega) (by omega)
      have T19 := Lib.hid fun w => turned_k a2 19 19 rfl w (by omega) (by omega)
      have E1 : bits .xor .u32 (bits .xor .u32 ((rotN 7 a15 : Nat) : Int) ((rotN 18 a15 : Nat) : Int)) ((a15 : Int) / 8) = ((sg0 a15 : Nat) : Int) := by rw [← sg0_bits (by omega), cutN_eq]; rfl
      have E2 : bits .xor .u32 (bits .xor .u32 ((rotN 17 a2 : Nat) : Int) ((rotN 19 a2 : Nat) : Int)) ((a2 : Int) / 1024) = ((sg1 a2 : Nat) : Int) := by rw [← sg1_bits (by omega), cutN_eq]; rfl
      clear hl3 hlt32 e15 e2 e16 e7 hds word hblk bl
      have w15 : IntKind.i64.wrap ((k : Int) - 15) = (k : Int) - 15 := IntWalk.i64_in _ (by omega)
      have w2 : IntKind.i64.wrap ((k : Int) - 2) = (k : Int) - 2 := IntWalk.i64_in _ (by clear w15; omega)
      have w16 : IntKind.i64.wrap ((k : Int) - 16) = (k : Int) - 16 := IntWalk.i64_in _ (by clear w15 w2; omega)
      have w7 : IntKind.i64.wrap ((k : Int) - 7) = (k : Int) - 7 := IntWalk.i64_in _ (by clear w15 w2 w16; omega)
      go_wp2_with (fail)
      go_quiet (fail)
      go_wp2_with (first
        | (go_at_call 76; with_reducible refine (T7.out _).mono ?_; rintro _ _ ⟨rfl, m1, rfl⟩)
        | (go_at_call 76; with_reducible refine (T18.out _).mono ?_; rintro _ _ ⟨rfl, m2, rfl⟩)
        | (go_at_call 76; with_reducible refine (T17.out _).mono ?_; rintro _ _ ⟨rfl, m3, rfl⟩)
        | (go_at_call 76; with_reducible refine (T19.out _).mono ?_; rintro _ _ ⟨rfl, m4, rfl⟩))
      obtain ⟨wa, hwa⟩ : ∃ W : World, W = wr.drewN (nq + m1 + m2 + m3 + m4) := ⟨_, rfl⟩
      have c16a : wa.cell? ⟨S, k - 16, none⟩ = some (.int .u32 (a16 : Int)) := hwa ▸ c16
      have c7a : wa.cell? ⟨S, k - 7, none⟩ = some (.int .u32 (a7 : Int)) := hwa ▸ c7
      have cSa : wa.cell? ⟨S, k, none⟩ = some (.int .u32 0) := hwa ▸ cS
      have fSa : wa.frozen? ⟨S, k, none⟩ = false := hwa ▸ fS
      have HBa : Hid (Blk wa S 121 (wordsC ds)) := Lib.hid (hwa ▸ HB.out.drewN _)
      have HLa : Hid (Below S w wa) := Lib.hid (hwa ▸ below_drewN HBL.out _)
      rw [← hwa]
      clear hwa c15 c2 c16 c7 cS fS HB HBL
      go_still_tail 15, (by kernel_rfl)
      change wpList _ _ _ _ _ wa.drew
      go_wp2_with (fail)
      go_roundw
      case rel =>
        clear w15 w2 w16 w7
        have e1 : ((a16 : Int) + (sg0 a15 : Nat) + (a7 : Int) + (sg1 a2 : Nat)) % 4294967296 = (((a16 + sg0 a15 + a7 + sg1 a2) % 4294967296 : Nat) : Int) := by omega
        rw [e1]
        refine ⟨k + 1, by go_num, by omega, by omega, ?_, (HLa.out.setCell (p := ⟨S, k, none⟩) (Nat.le_refl _) _).drew⟩
        have h := (HBa.out.set k (wv ((a16 + sg0 a15 + a7 + sg1 a2) % 4294967296))).drew
        have e := wordsC_set (ds := ds) (x := (a16 + sg0 a15 + a7 + sg1 a2) % 4294967296) (by rw [HL3.out]; omega)
        rw [HL3.out] at e
        rw [e, ← HST.out, ← HN.out] at h
        exact h
      case measure => simp [intOf]; omega
    · obtain rfl : k = 64 := by omega
      have HB := Lib.hid hblk
      have HBL := Lib.hid bl
      clear hblk bl
      go_wp2_with (fail)
      exact HQ.out _ _ _ _ _ _ _ _ _ _ _ _ _ _ _ _ _ _ _ _ _ _ _ _ _ _ _ _ _ _ _ _ _ _ _ _ _ _ _ _ _ _ _ _ _ _ _ _ HB HBL
end Go.Proofs.YtnaccngcpjkmbaaDoor

/- The contract of sha.spreadOut: a word for each round of a block. Conditions: a block of 64 bytes. -/
namespace Go.Proofs.YtnaccngcpjkmbaaDoor
open Go.RowKit

/-- The words of the rounds. -/
def spreadN (bs : List UInt8) : List Nat := schedN 48 (wordsAt bs 0 16)
theorem spreadN_length (bs : List UInt8) : (spreadN bs).length = 64 := by unfold spreadN; rw [schedN_length, wordsAt_length]
theorem spreadN_lt (bs : List UInt8) : ∀ x ∈ spreadN bs, x < 4294967296 := schedN_lt (wordsAt_lt _ _ _) 48
set_option maxRecDepth 100000 in
set_option maxHeartbeats 2000000 in
theorem spread_any (b : Nat) (bs : List UInt8) (w : World) (hb : Blk w b 104 (bs.map bv)) (hl : bs.length = 64) :
    Calls Tryd.prog 75 #[.pointer (some ⟨b, 0, none⟩)] w fun e w' => e = .returned (wordsV (spreadN bs)) ∧ Below w.heap.size w w' := by
  have HB0 : Hid (Blk ((w.alloc (.cells (List.replicate 64 (Value.int .u32 0)).toArray 121)).alloc (.cells (List.replicate 64 (Value.int .u32 0)).toArray 121)) b 104 (bs.map bv)) := Lib.hid ((hb.alloc _).alloc _)
  have HS0 : Hid (Blk ((w.alloc (.cells (List.replicate 64 (Value.int .u32 0)).toArray 121)).alloc (.cells (List.replicate 64 (Value.int .u32 0)).toArray 121)) (w.heap.size + 1) 121 (wordsC [])) := by
    have h := Blk.made (w.alloc (.cells (List.replicate 64 (Value.int .u32 0)).toArray 121)) 121 (List.replicate 64 (Value.int .u32 0))
    simp only [World.size_alloc] at h
    exact h
  have hlt : b < w.heap.size + 1 := Nat.lt_succ_of_lt hb.lt
  have HL := Lib.hid hl
  have HLN : Hid (((spreadN bs).map wv).length = 64) := by show ((spreadN bs).map wv).length = 64; rw [List.length_map, spreadN_length]
  have HI : Hid ((Tryd.prog.info? 121).map (·.size) = some 64) := by show _ = _; kernel_rfl
  clear hb hl
  go_enter Tryd.func75, Tryd.ntmps75
  go_wp2_with (fail)
  refine first_loop _ _ _ _ _ _ _ _ _ _ _ _ _ _ _ _ _ _ _ _ _ _ _ _ _ _ _ _ _ _ _ _ _ _ _ _ _ _ _ _ _ _ _ _ _ _ _ _ _ _ _ _ _ _ _ _ _ _ _ _ _ _ _ _ _ _ _ _ _ _ _ _ _ _ _ _ _ _ _ _ _ _ _ _ _ _ _ _ bs HL.out _ b (w.heap.size + 1) HB0 hlt HS0 (Lib.hid ?_)
  intro u4 u5 u12 u13 u14 u15 u16 u17 u18 u19 u20 u21 u22 u23 u24 u25 u26 u27 u28 u29 u30 u31 u32 u33 u34 u35 u36 u37 u38 u39 u40 u41 u42 u43 u44 u45 u46 w1 hb1 hl1
  go_wp2_with (fail)
  refine further_loop _ _ _ _ _ _ _ _ _ _ _ _ _ _ _ _ _ _ _ _ _ _ _ _ _ _ _ _ _ _ _ _ _ _ _ _ _ _ _ _ _ _ _ _ _ _ _ _ _ _ _ _ _ _ _ _ _ _ _ _ _ _ _ _ _ _ _ _ _ _ _ _ _ _ _ _ _ _ _ _ _ _ _ _ _ _ _ _ _ (wordsAt bs 0 16) (Lib.hid ⟨wordsAt_length _ _ _, wordsAt_lt _ _ _⟩) w1 (w.heap.size + 1) hb1 (Lib.hid ?_)
  intro u7 u8 u9 u10 u47 u48 u49 u50 u51 u52 u53 u54 u55 u56 u57 u58 u59 u60 u61 u62 u63 u64 u65 u66 u67 u68 u69 u70 u71 u72 u73 u74 u75 u76 u77 u78 u79 u80 u81 u82 u83 u84 u85 u86 u87 u88 u89 w2 hb2 hl2
  have D := Lib.hid (hl1.out.trans hl2.out)
  have hS := hb2.out
  have e : wordsC (schedN 48 (wordsAt bs 0 16)) = (spreadN bs).map wv := by
    unfold wordsC
    rw [schedN_length, wordsAt_length]
    simp [spreadN]
  rw [e] at hS
  have HS := Lib.hid hS
  have HR : Hid (Blk w2 w.heap.size 121 (List.replicate 64 (Value.int .u32 0))) := ((Blk.made w 121 (List.replicate 64 (Value.int .u32 0))).alloc _).below D.out (by omega)
  clear hS e hb1 hb2 hl1 hl2 HB0 HS0
  go_wp2_with (first
    | (refine wpList_load_blk rfl 121 _ rfl (w.heap.size + 1) rfl 121 ((spreadN bs).map wv) _ HS.out Tryd.underlying121 rfl (by rw [HLN.out]; exact HI.out) ?_)
    | (refine wpList_store_blk rfl 121 _ _ rfl w.heap.size 121 _ HR.out ((spreadN bs).map wv) rfl rfl (by rw [HLN.out]; rfl) (by rw [HLN.out]; exact HI.out) (wv_one _) ?_; intro w9 hb9 hs9))
  refine bodyPost_ret (v := wordsV (spreadN bs)) ?_ rfl ⟨rfl, ?_⟩
  · exact results_blk (ty := 121) Tryd.results75 _ w9 w.heap.size 121 ((spreadN bs).map wv) _ rfl hb9 Tryd.underlying121 rfl (by rw [HLN.out]; exact HI.out)
  · exact (((Below.refl _ _).alloc (Nat.le_refl _) _).alloc (by simp) _).trans ((D.out.mono (by omega)).trans hs9.below)
end Go.Proofs.YtnaccngcpjkmbaaDoor

/- sha's through: the loop of the rounds. Conditions: words that fit uint32; the table of the rounds as it is laid. -/
namespace Go.Proofs.YtnaccngcpjkmbaaDoor
open Go.RowKit

noncomputable def body_thr : Code := (((Tryd.f58.body.map loopsOf).getD [])[0]?).getD .skip
/-- The table of the rounds' words lies where the program has it. -/
def Salts (w : World) : Prop := 0 < w.heap.size ∧ ∀ i (h : i < kT.length), w.cell? ⟨0, i, none⟩ = some (.int .u32 ((kT[i] : Nat) : Int))
theorem Salts.below {w w' : World} (h : Salts w) (hb : Below w.heap.size w w') : Salts w' := ⟨Nat.lt_of_lt_of_le h.1 hb.size, fun i hi => (hb.cell (p := ⟨0, i, none⟩) h.1).trans (h.2 i hi)⟩
theorem Salts.under {w w' : World} {B : Nat} (h : Salts w) (hb : Below B w w') (hB : 0 < B) : Salts w' := ⟨Nat.lt_of_lt_of_le h.1 hb.size, fun i hi => (hb.cell (p := ⟨0, i, none⟩) hB).trans (h.2 i hi)⟩
theorem Salts.drewN {w : World} (h : Salts w) (n : Nat) : Salts (w.drewN n) := h
theorem Salts.alloc {w : World} (h : Salts w) (o : Obj) : Salts (w.alloc o) := h.below ((Below.refl _ _).alloc (Nat.le_refl _) o)
theorem not_nat {e : Nat} (h : e < 4294967296) : 4294967295 ^^^ e = 4294967295 - e := by
  apply Nat.eq_of_testBit_eq
  intro i
  have h1 : (4294967295 : Nat) - e = 2 ^ 32 - (e + 1) := by omega
  rw [h1, Nat.testBit_two_pow_sub_succ (by simpa using h), Nat.testBit_xor, show (4294967295 : Nat) = 2 ^ 32 - 1 by rfl, Nat.testBit_two_pow_sub_one]
  by_cases hi : i < 32
  · simp [hi]
  · have h3 : (2 : Nat) ^ 32 ≤ 2 ^ i := Nat.pow_le_pow_right (by decide) (by omega)
    have h2 : e.testBit i = false := Nat.testBit_lt_two_pow (Nat.lt_of_lt_of_le h h3)
    simp [hi, h2]
theorem not_bits {e : Nat} (h : e < 4294967296) : bits .xor .u32 4294967295 (e : Int) = ((4294967295 - e : Nat) : Int) := by
  have h1 := u32_xor_nat 4294967295 e (by omega) h
  rw [not_nat h] at h1
  exact h1
theorem ch_bits' {e f g : Nat} (he : e < 4294967296) (hf : f < 4294967296) (hg : g < 4294967296) : bits .xor .u32 (bits .and .u32 (e : Int) (f : Int)) (bits .and .u32 (bits .xor .u32 IntKind.u32.max (e : Int)) (g : Int)) = ((chN e f g : Nat) : Int) := by
  have hm : IntKind.u32.max = 4294967295 := by decide
  rw [hm]
  rw [not_bits he, u32_and_nat _ _ he hf, u32_and_nat _ _ (by omega) hg, u32_xor_nat _ _ (and_lt32 he) (and_lt32 (by omega))]; rfl
def ThrRel (s : St) (ws : List Nat) (w : World) (a b c d e f g h i : Value) (wr : World) : Prop :=
  ∃ j n : Nat, i = .int .i64 (j : Int) ∧ j ≤ 64 ∧ wr = w.drewN n ∧ a = wv (rnds s ws j).a ∧ b = wv (rnds s ws j).b ∧ c = wv (rnds s ws j).c ∧ d = wv (rnds s ws j).d ∧ e = wv (rnds s ws j).e ∧ f = wv (rnds s ws j).f ∧ g = wv (rnds s ws j).g ∧ h = wv (rnds s ws j).h
theorem thrRel_mk {s : St} {ws : List Nat} {w : World} {j n : Nat} {t : St} (hj : j ≤ 64) (ht : rnds s ws j = t) : ThrRel s ws w (wv t.a) (wv t.b) (wv t.c) (wv t.d) (wv t.e) (wv t.f) (wv t.g) (wv t.h) (.int .i64 (j : Int)) (w.drewN n) := by
  subst ht
  exact ⟨j, n, rfl, hj, rfl, rfl, rfl, rfl, rfl, rfl, rfl, rfl, rfl⟩
set_option maxRecDepth 100000 in
set_option maxHeartbeats 2000000 in
theorem thr_loop (c0 c1 c2 c3 c4 c14 c15 c16 c17 c18 c19 c20 c21 c22 c23 c24 c25 c26 c27 c28 c29 c30 c31 c32 c33 c34 c35 c36 c38 c39 c40 c41 c42 c43 c44 c45 c46 c47 c48 c49 c50 c51 c52 c53 c54 c55 c56 c57 c58 c59 c60 c61 c62 c63 c64 c65 c66 c67 c68 c69 c70 c71 c72 c73 c74 c75 c76 c77 c78 c79 c80 c81 c82 c83 c84 c85 c86 c87 c88 c89 c90 c91 c92 c93 c94 c95 c96 c97 c98 c99 c100 c101 c102 c103 c104 c105 c106 c107 c108 c109 c110 c111 c112 c113 c114 c115 c116 c117 c118 c119 c120 c121 c122 c123 c124 c125 c126 c127 c128 c129 c130 c131 c132 c133 c134 : Value) (s : St) (hs : Hid s.ok) (ws : List Nat) (HWS : Hid (ws.length = 64 ∧ ∀ x ∈ ws, x < 4294967296)) (w : World) (X : Nat) (hX : Hid (Blk w X 121 (ws.map wv))) (hk : Hid (Salts w)) {Q : Exit → Act → World → Prop}
    (HQ : Hid (∀ (u14 u15 u16 u17 u18 u37 u38 u39 u40 u41 u42 u43 u44 u45 u46 u47 u48 u49 u50 u51 u52 u53 u54 u55 u56 u57 u58 u59 u60 u61 u62 u63 u64 u65 u66 u67 u68 u69 u70 u71 u72 u73 u74 u75 u76 u77 u78 u79 u80 u81 u82 u83 u84 u85 u86 u87 u88 u89 u90 u91 u92 u93 u94 u95 u96 u97 u98 u99 u100 u101 : Value) (n : Nat) (t : St), Hid (t = rnds s ws 64) → Q (.exit 0) ⟨List.toArray (c0 :: c1 :: c2 :: c3 :: c4 :: (.pointer (some ⟨X, 0, none⟩)) :: (wv t.a) :: (wv t.b) :: (wv t.c) :: (wv t.d) :: (wv t.e) :: (wv t.f) :: (wv t.g) :: (wv t.h) :: u14 :: u15 :: u16 :: u17 :: u18 :: c19 :: c20 :: c21 :: c22 :: c23 :: c24 :: c25 :: c26 :: c27 :: c28 :: c29 :: c30 :: c31 :: c32 :: c33 :: c34 :: c35 :: c36 :: u37 :: u38 :: u39 :: u40 :: u41 :: u42 :: u43 :: u44 :: u45 :: u46 :: u47 :: u48 :: u49 :: u50 :: u51 :: u52 :: u53 :: u54 :: u55 :: u56 :: u57 :: u58 :: u59 :: u60 :: u61 :: u62 :: u63 :: u64 :: u65 :: u66 :: u67 :: u68 :: u69 :: u70 :: u71 :: u72 :: u73 :: u74 :: u75 :: u76 :: u77 :: u78 :: u79 :: u80 :: u81 :: u82 :: u83 :: u84 :: u85 :: u86 :: u87 :: u88 :: u89 :: u90 :: u91 :: u92 :: u93 :: u94 :: u95 :: u96 :: u97 :: u98 :: u99 :: u100 :: u101 :: c102 :: c103 :: c104 :: c105 :: c106 :: c107 :: c108 :: c109 :: c110 :: c111 :: c112 :: c113 :: c114 :: c115 :: c116 :: c117 :: c118 :: c119 :: c120 :: c121 :: c122 :: c123 :: c124 :: c125 :: c126 :: c127 :: c128 :: c129 :: c130 :: c131 :: c132 :: c133 :: c134 :: []), []⟩ (w.drewN n))) :
    (Code.loop body_thr).wp Tryd.prog Q ⟨List.toArray (c0 :: c1 :: c2 :: c3 :: c4 :: (.pointer (some ⟨X, 0, none⟩)) :: (wv s.a) :: (wv s.b) :: (wv s.c) :: (wv s.d) :: (wv s.e) :: (wv s.f) :: (wv s.g) :: (wv s.h) :: c14 :: c15 :: c16 :: c17 :: c18 :: c19 :: c20 :: c21 :: c22 :: c23 :: c24 :: c25 :: c26 :: c27 :: c28 :: c29 :: c30 :: c31 :: c32 :: c33 :: c34 :: c35 :: c36 :: (.int .i64 0) :: c38 :: c39 :: c40 :: c41 :: c42 :: c43 :: c44 :: c45 :: c46 :: c47 :: c48 :: c49 :: c50 :: c51 :: c52 :: c53 :: c54 :: c55 :: c56 :: c57 :: c58 :: c59 :: c60 :: c61 :: c62 :: c63 :: c64 :: c65 :: c66 :: c67 :: c68 :: c69 :: c70 :: c71 :: c72 :: c73 :: c74 :: c75 :: c76 :: c77 :: c78 :: c79 :: c80 :: c81 :: c82 :: c83 :: c84 :: c85 :: c86 :: c87 :: c88 :: c89 :: c90 :: c91 :: c92 :: c93 :: c94 :: c95 :: c96 :: c97 :: c98 :: c99 :: c100 :: c101 :: c102 :: c103 :: c104 :: c105 :: c106 :: c107 :: c108 :: c109 :: c110 :: c111 :: c112 :: c113 :: c114 :: c115 :: c116 :: c117 :: c118 :: c119 :: c120 :: c121 :: c122 :: c123 :: c124 :: c125 :: c126 :: c127 :: c128 :: c129 :: c130 :: c131 :: c132 :: c133 :: c134 :: []), []⟩ w := by
  unfold body_thr
  conv => arg 2; arg 1; whnf
  go_loopw [6, 7, 8, 9, 10, 11, 12, 13, 37] (fun a b c d e f g h i wx => ThrRel s ws w a b c d e f g h i wx) (fun _ _ _ _ _ _ _ _ i _ => 64 - (intOf i).toNat)
  case atStart => exact thrRel_mk (j := 0) (n := 0) (by omega) rfl
  case round =>
    obtain ⟨j, n, rfl, hj, rfl, rfl, rfl, rfl, rfl, rfl, rfl, rfl, rfl⟩ := hrel
    have hok := rnds_ok hs.out ws j
    obtain ⟨⟨a, b, c, d, e, f, g, p⟩, ht⟩ : ∃ t, t = rnds s ws j := ⟨_, rfl⟩
    rw [← ht] at hok ⊢
    obtain ⟨oa, ob, oc, od, oe, of, og, oh⟩ := hok
    have HT := Lib.hid ht
    simp only at oa ob oc od oe of og oh ⊢
    clear ht
    by_cases hlt3 : j < 64
    · have hI : (j : Int) < 64 := by omega
      obtain ⟨kj, hkj, hkc, hkl⟩ : ∃ kj : Nat, kT.getD j 0 = kj ∧ w.cell? ⟨0, j, none⟩ = some (.int .u32 (kj : Int)) ∧ (kj : Int) ≤ 4294967295 := by
        have h1 : j < kT.length := hlt3
        exact ⟨kT[j], by simp [h1], hk.out.2 j h1, by have := kT_lt _ (List.getElem_mem h1); omega⟩
      obtain ⟨wj, hwj, hwc, hwl⟩ : ∃ wj : Nat, ws.getD j 0 = wj ∧ w.cell? ⟨X, j, none⟩ = some (.int .u32 (wj : Int)) ∧ (wj : Int) ≤ 4294967295 := by
        have h1 : j < ws.length := by have := HWS.out.1; omega
        refine ⟨ws[j], by simp [h1], ?_, by have := HWS.out.2 _ (List.getElem_mem h1); omega⟩
        rw [hX.out.cell j, List.getElem?_map, List.getElem?_eq_getElem h1]
        rfl
      have HN : Hid (rnds s ws (j + 1) = rnd ⟨a, b, c, d, e, f, g, p⟩ kj wj) := by
        show rnds s ws (j + 1) = _
        rw [rnds, ← HT.out, hkj, hwj]
      have T6 := Lib.hid fun w => turned_k e 6 6 rfl w (by omega) (by omega)
      have T11 := Lib.hid fun w => turned_k e 11 11 rfl w (by omega) (by omega)
      have T25 := Lib.hid fun w => turned_k e 25 25 rfl w (by omega) (by omega)
      have T2 := Lib.hid fun w => turned_k a 2 2 rfl w (by omega) (by omega)
      have T13 := Lib.hid fun w => turned_k a 13 13 rfl w (by omega) (by omega)
      have T22 := Lib.hid fun w => turned_k a 22 22 rfl w (by omega) (by omega)
      have E1 := Sg1_bits oe
      have E2 := Sg0_bits oa
      have E3 := ch_bits' oe of og
      have E4 := maj_bits oa ob oc
      have ia : (a : Int) ≤ 4294967295 := by omega
      have ie : (e : Int) ≤ 4294967295 := by omega
      clear hkj hwj
      unfold wv
      go_wp2_with (fail)
      go_quiet (first
        | (go_at_call 76; with_reducible exact quiet_add (T6.out _))
        | (go_at_call 76; with_reducible exact quiet_add (T11.out _))
        | (go_at_call 76; with_reducible exact quiet_add (T25.out _)))
      go_wp2_with (first
        | (go_at_call 76; with_reducible refine (T2.out _).mono ?_; rintro _ _ ⟨rfl, m1, rfl⟩)
        | (go_at_call 76; with_reducible refine (T13.out _).mono ?_; rintro _ _ ⟨rfl, m2, rfl⟩)
        | (go_at_call 76; with_reducible refine (T22.out _).mono ?_; rintro _ _ ⟨rfl, m3, rfl⟩))
      go_roundw
      case rel =>
        have ea : (((p : Int) + (Sg1 e : Nat) + (chN e f g : Nat) + (kj : Int) + (wj : Int)) % 4294967296 + ((Sg0 a : Nat) + (majN a b c : Nat) : Int) % 4294967296) % 4294967296 = (((rnd ⟨a, b, c, d, e, f, g, p⟩ kj wj).a : Nat) : Int) := by
          simp only [rnd, St.t, St.u]; omega
        have ed : ((d : Int) + ((p : Int) + (Sg1 e : Nat) + (chN e f g : Nat) + (kj : Int) + (wj : Int)) % 4294967296) % 4294967296 = (((rnd ⟨a, b, c, d, e, f, g, p⟩ kj wj).e : Nat) : Int) := by
          simp only [rnd, St.t]; omega
        rw [ea, ed]
        exact thrRel_mk (j := j + 1) (by omega) HN.out
      case measure => simp [intOf]; omega
    · obtain rfl : j = 64 := by omega
      go_wp2_with (fail)
      exact HQ.out _ _ _ _ _ _ _ _ _ _ _ _ _ _ _ _ _ _ _ _ _ _ _ _ _ _ _ _ _ _ _ _ _ _ _ _ _ _ _ _ _ _ _ _ _ _ _ _ _ _ _ _ _ _ _ _ _ _ _ _ _ _ _ _ _ _ _ _ _ _ _ ⟨a, b, c, d, e, f, g, p⟩ HT
end Go.Proofs.YtnaccngcpjkmbaaDoor
