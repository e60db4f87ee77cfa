/- Part 24 of the words that the laws share: RSeal. No condition of its own: each theorem says its own. -/
import Derived.Test.YtmoffodmbbkolaaDoorPart12
import Derived.Test.YtmoffodmbbkolaaDoorPart18
import Derived.Test.YtmoffodmbbkolaaDoorPart23
import Derived.Test.YtmoffodmbbkolaaDoorPart2
import Derived.Deep.Cut

/- The contract of the sixth reference's Seal: what is sealed of plain bytes and others beside them. Conditions: a key of 32 bytes, a nonce of 12, at most 100000 bytes each. -/
namespace Go.Proofs.YtmoffodmbbkolaaDoor
open Go.RowKit

theorem form_any' (N : Int) (n k : Nat) (w : World) (hN : N = (n : Int)) (hn : (n : Int) ≤ 18446744073709551615) (h8 : k ≤ 8) :
    Calls Tryd.prog 23 #[.int .u64 N, .int .i64 (k : Int)] w (Own w 5 (leB k n)) := hN ▸ form_any n k w hn h8
set_option maxRecDepth 100000 in
set_option maxHeartbeats 4000000 in
theorem refSeal_any (k n : List UInt8) (va vp : Value) (a p : List UInt8) (w : World) (hk : k.length = 32) (hn : n.length = 12) (ha : Rd w va a) (hp : Rd w vp p) (la : a.length ≤ 100000) (lp : p.length ≤ 100000) :
    Calls Tryd.prog 12 #[arrV k, arrV n, va, vp] w (Own w 5 (sealB k n a p)) := by
  obtain ⟨i0, hi, hz0, hz1, hz2⟩ := info_parts info_u8
  obtain ⟨Aa, ca, rfl, _⟩ := ha.form
  obtain ⟨Ap, cp, rfl, _⟩ := hp.form
  have HIK : Hid ((Tryd.prog.info? 22).map (·.size) = some 32) := by show _ = _; kernel_rfl
  have HIN : Hid ((Tryd.prog.info? 24).map (·.size) = some 12) := by show _ = _; kernel_rfl
  have HIT : Hid ((Tryd.prog.info? 48).map (·.size) = some 16) := by show _ = _; kernel_rfl
  have HKL := Lib.hid hk
  have HNL := Lib.hid hn
  have HKM : Hid ((k.map bv).length = 32) := by show _ = _; rw [List.length_map, hk]
  have HNM : Hid ((n.map bv).length = 12) := by show _ = _; rw [List.length_map, hn]
  have LA : Hid (a.length ≤ 100000) := Lib.hid la
  have LP : Hid (p.length ≤ 100000) := Lib.hid lp
  obtain ⟨W0, hW0⟩ : ∃ W : World, W = (w.alloc (.cells (k.map bv).toArray 22)).alloc (.cells (n.map bv).toArray 24) := ⟨_, rfl⟩
  have S0 : Hid (W0.heap.size = w.heap.size + 1 + 1) := Lib.hid (by rw [hW0]; simp)
  have D0 : Hid (Below w.heap.size w W0) := Lib.hid (by rw [hW0]; exact (((Below.refl _ _).alloc (Nat.le_refl _) _).alloc (by simp) _))
  have K0 : Hid (Blk W0 w.heap.size 22 (k.map bv)) := Lib.hid (by rw [hW0]; exact (Blk.made w _ _).alloc _)
  have N0 : Hid (Blk W0 (w.heap.size + 1) 24 (n.map bv)) := Lib.hid (by
    have h := Blk.made (w.alloc (.cells (k.map bv).toArray 22)) 24 (n.map bv)
    rw [World.size_alloc] at h
    rw [hW0]
    exact h)
  have RA0 : Hid (Rd W0 (.slice Aa a.length ca) a) := Lib.hid (ha.below D0.out)
  have RP0 : Hid (Rd W0 (.slice Ap p.length cp) p) := Lib.hid (hp.below D0.out)
  have lAI : (a.length : Int) ≤ 100000 := by omega
  have lPI : (p.length : Int) ≤ 100000 := by omega
  clear hk hn ha hp la lp
  go_enter Tryd.func12, Tryd.ntmps12
  go_upto_region 1 with (first
    | refine Go.Great.wpList_boxTo rfl _ _ rfl _ rfl w.heap.size rfl ((k.map bv).toArray) rfl ?_
    | refine Go.Great.wpList_boxTo rfl _ _ rfl _ rfl (w.heap.size + 1) (by simp) ((n.map bv).toArray) rfl ?_)
  rw [← hW0]
  clear hW0
  go_wp2_with (first
    | (refine wpList_load_blk rfl 22 (.tmp 4) rfl w.heap.size rfl 22 (k.map bv) _ K0.out Tryd.underlying22 rfl (by rw [HKM.out]; exact HIK.out) ?_)
    | (refine wpList_load_blk rfl 24 (.tmp 5) rfl (w.heap.size + 1) rfl 24 (n.map bv) _ N0.out Tryd.underlying24 rfl (by rw [HNM.out]; exact HIN.out) ?_))
  refine (refXor_any (.slice Ap p.length cp) k n p 1 W0 HKL.out HNL.out (by omega) RP0.out (by have := LP.out; omega)).mono ?_
  rintro e w1 ⟨vu, rfl, ou, hb1⟩
  obtain ⟨us, hus⟩ : ∃ us, us = chaXor k n 1 p := ⟨_, rfl⟩
  rw [← hus] at ou
  have HUS := Lib.hid hus
  have HUL : Hid (us.length = p.length) := Lib.hid (by rw [hus, chaXor_length])
  have SS := S0.out
  have OU1 := Lib.hid ou
  have K1 := Lib.hid (K0.out.below hb1 (by omega))
  have N1 := Lib.hid (N0.out.below hb1 (by omega))
  have RA1 := Lib.hid (RA0.out.below hb1)
  have D1 : Hid (Below w.heap.size w w1) := Lib.hid (D0.out.trans (hb1.mono (by omega)))
  have S1 : Hid (w.heap.size + 1 + 1 ≤ w1.heap.size) := Lib.hid (by have := hb1.size; omega)
  clear hb1 ou hus K0 N0 RA0 RP0 D0
  go_wp2_with (first
    | (refine wpList_load_blk rfl 22 (.tmp 4) rfl w.heap.size rfl 22 (k.map bv) _ K1.out Tryd.underlying22 rfl (by rw [HKM.out]; exact HIK.out) ?_)
    | (refine wpList_load_blk rfl 24 (.tmp 5) rfl (w.heap.size + 1) rfl 24 (n.map bv) _ N1.out Tryd.underlying24 rfl (by rw [HNM.out]; exact HIN.out) ?_))
  refine (refBlk_any k n 0 w1 HKL.out HNL.out (by omega)).mono ?_
  rintro e w2 ⟨vb, rfl, ob, hb2⟩
  obtain ⟨bs, hbs⟩ : ∃ bs, bs = chaBlock k 0 n := ⟨_, rfl⟩
  rw [← hbs] at ob
  have HBS := Lib.hid hbs
  have HBL : Hid (bs.length = 64) := Lib.hid (by rw [hbs, chaBlock_length])
  obtain ⟨g, c, rfl, hg1, hg2⟩ := own_form ob (by rw [HBL.out]; omega)
  have hgl : g < w2.heap.size := (ob.lt g rfl).2
  have hbc : Rd w2 (.slice (some ⟨g, 0, none⟩) bs.length c) bs := Rd.of_own ob
  obtain ⟨_, _, he, _, _, hq⟩ := hbc.form
  obtain ⟨b', off', e', q4, q5⟩ := hq (by rw [HBL.out]; omega)
  have HCELL : Hid (∀ i (h : i < bs.length), w2.cell? ⟨g, 0 + i, none⟩ = some (bv bs[i])) := Lib.hid (by
    simp only [Value.slice.injEq] at he
    obtain ⟨h1, _, _⟩ := he
    rw [e'] at h1
    simp only [Option.some.injEq, Addr.mk.injEq] at h1
    obtain ⟨rfl, rfl, _⟩ := h1
    exact q5)
  have OU2 := Lib.hid (own_lain OU1.out hb2)
  have RA2 := Lib.hid (RA1.out.below hb2)
  have D2 : Hid (Below w.heap.size w w2) := Lib.hid (D1.out.trans (hb2.mono (by have := S1.out; omega)))
  have S2 : Hid (w.heap.size + 1 + 1 ≤ w2.heap.size ∧ W0.heap.size ≤ w2.heap.size) := Lib.hid (by have := hb2.size; have := S1.out; have := D1.out.size; omega)
  rw [HBL.out]
  have H0 : Hid (Blk (w2.alloc (.cells (List.replicate 32 (Value.int .u8 0)).toArray 22)) w2.heap.size 22 (putC 32 bs 0)) := Lib.hid (by simpa [putC] using Blk.made w2 22 (List.replicate 32 (Value.int .u8 0)))
  have HH : Hid (∀ i (h : i < bs.length), (w2.alloc (.cells (List.replicate 32 (Value.int .u8 0)).toArray 22)).cell? ⟨g, 0 + i, none⟩ = some (bv bs[i])) := Lib.hid (fun i h => by
    rw [World.cell?_alloc_lt w2 _ ⟨g, 0 + i, none⟩ hgl]
    exact HCELL.out i h)
  clear hb2 ob hbs hbc he hq q4 q5 e' HCELL K1 N1 RA1 D1 OU1
  go_wp2_with (fail)
  refine sk_loop _ _ _ _ _ _ _ _ _ _ _ _ _ _ _ _ _ _ _ _ _ _ _ _ _ _ _ _ _ _ _ _ _ _ _ _ _ _ _ _ _ _ _ _ _ _ _ _ _ _ _ _ _ _ _ _ _ _ _ _ _ _ _ _ _ _ _ bs HBL.out _ w2.heap.size g 0 c HH hgl H0 (Lib.hid ?_)
  intro u12 u22 u23 u24 u25 u26 u27 u28 u29 u30 u31 w3 hb3 hl3
  have eC : putC 32 bs 32 = ((chaBlock k 0 n).take 32).map bv := by unfold putC; rw [HBS.out]; simp
  have hb := hb3.out
  rw [eC] at hb
  obtain ⟨ko, hko⟩ : ∃ ko, ko = (chaBlock k 0 n).take 32 := ⟨_, rfl⟩
  rw [← hko] at hb
  have HKO := Lib.hid hko
  have HOL : Hid (ko.length = 32) := Lib.hid (by rw [hko, keyO_length])
  have HOM : Hid ((ko.map bv).length = 32) := Lib.hid (by rw [List.length_map]; exact HOL.out)
  have KO3 := Lib.hid hb
  have b3 : Below w2.heap.size w2 w3 := ((Below.refl _ w2).alloc (Nat.le_refl _) _).trans hl3.out
  have OU3 := Lib.hid (own_lain OU2.out b3)
  have RA3 := Lib.hid (RA2.out.below b3)
  have D3 : Hid (Below w.heap.size w w3) := Lib.hid (D2.out.trans (b3.mono (by have := S2.out; omega)))
  have S3 : Hid (w.heap.size + 1 + 1 ≤ w3.heap.size ∧ W0.heap.size ≤ w3.heap.size ∧ w2.heap.size < w3.heap.size) := Lib.hid (by have := S2.out; have := b3.size; have := hb.lt; omega)
  clear hb eC hb3 hl3 hko b3 H0 HH OU2 RA2 D2
  go_wp2_with (
    at_builtin
    refine wpList_append_rd _ rfl (.tmp 32) (.tmp 33) _ rfl w3.heap.size 5 i0 _ Tryd.underlying26 hi hz0 hz1 hz2 rfl (.slice (some ⟨w3.heap.size, 0, none⟩) 0 0) 0 [] rfl (World.ownsRow_lit w3 #[] 0 (Nat.le_refl _) (by simp) rfl) _ a rfl (RA3.out.alloc _) ?_ ?_ ?_
    · have := LA.out; omega
    · simp
    intro v4 w4 own4 g4)
  have B4 : Hid (Below w3.heap.size w3 w4) := Lib.hid (((Below.refl _ _).alloc (Nat.le_refl _) _).grown g4 (by simp) (by simp [Value.ownBlock]))
  have hrel4 : Hid (PzRel w4 w3.heap.size a v4 w4) := Lib.hid (pzRel_mk (j := 0) (by omega) (by simpa using own4) (Below.refl _ _))
  clear own4 g4
  refine sp_loop _ _ _ _ _ _ _ _ _ _ _ _ _ _ _ _ _ _ _ _ _ _ _ _ _ _ _ _ _ _ _ _ _ _ _ _ _ _ _ _ _ _ _ _ _ _ _ _ _ _ _ _ _ _ _ _ _ _ _ _ _ _ _ _ _ _ _ _ _ a w3.heap.size w4 v4 B4.out.size (by omega) hrel4 (Lib.hid ?_)
  intro u35 u36 u37 u38 u39 u40 u41 v5 w5 ho5 hl5
  have B5 : Hid (Below w3.heap.size w3 w5) := Lib.hid (B4.out.trans hl5.out)
  have RU5 := Lib.hid (Rd.of_own (own_lain OU3.out B5.out))
  have HO5 := ho5
  clear hrel4 hl5 B4
  go_wp2_with (
    at_builtin
    refine wpList_append_rd _ rfl (.tmp 42) (.tmp 43) _ rfl w3.heap.size 5 i0 _ Tryd.underlying26 hi hz0 hz1 hz2 rfl _ _ _ rfl HO5.out _ us rfl RU5.out ?_ ?_ ?_
    · have := LA.out; have := LP.out; have := HUL.out; have := pz_lt a.length; omega
    · exact B5.out.size
    intro v6 w6 own6 g6)
  obtain ⟨ms, hms⟩ : ∃ ms, ms = a ++ zs a.length ++ us := ⟨_, rfl⟩
  have HML : Hid (ms.length = a.length + pz a.length + us.length) := Lib.hid (by rw [hms, List.length_append, List.length_append, zs_length])
  have HMS := Lib.hid hms
  rw [← List.map_append, ← hms, ← HML.out] at own6
  have B6 : Hid (Below w3.heap.size w3 w6) := Lib.hid (B5.out.grown g6 B5.out.size (own_ge HO5.out))
  have hrel6 : Hid (PzRel w6 w3.heap.size ms v6 w6) := Lib.hid (pzRel_mk (j := 0) (by omega) (by simpa using own6) (Below.refl _ _))
  have lmI : (ms.length : Int) ≤ 1000000 := by have := LA.out; have := LP.out; have := HUL.out; have := pz_lt a.length; have := HML.out; omega
  clear own6 g6 hms HO5 ho5 B5 RU5
  refine sq_loop _ _ _ _ _ _ _ _ _ _ _ _ _ _ _ _ _ _ _ _ _ _ _ _ _ _ _ _ _ _ _ _ _ _ _ _ _ _ _ _ _ _ _ _ _ _ _ _ _ _ _ _ _ _ _ _ _ _ _ _ _ _ _ _ _ _ _ _ _ ms w3.heap.size w6 v6 B6.out.size lmI hrel6 (Lib.hid ?_)
  intro u45 u46 u47 u48 u49 u50 u51 v7 w7 ho7 hl7
  have B7 : Hid (Below w3.heap.size w3 w7) := Lib.hid (B6.out.trans hl7.out)
  clear hrel6 hl7 B6
  go_wp2_with (fail)
  refine (form_any' _ a.length 8 w7 rfl (by omega) (by omega)).mono ?_
  rintro e w8 ⟨v8, rfl, own8, hb8⟩
  have O8 := Lib.hid (own_lain ho7.out hb8)
  have R8 := Lib.hid (Rd.of_own own8)
  have B8 : Hid (Below w3.heap.size w3 w8) := Lib.hid (B7.out.trans (hb8.mono B7.out.size))
  clear ho7 own8 hb8 B7
  go_wp2_with (
    at_builtin
    refine wpList_append_rd _ rfl (.tmp 52) (.tmp 56) _ rfl w3.heap.size 5 i0 _ Tryd.underlying26 hi hz0 hz1 hz2 rfl _ _ _ rfl O8.out _ (leB 8 a.length) rfl R8.out ?_ ?_ ?_
    · have := pz_lt ms.length; rw [leB_length]; omega
    · exact B8.out.size
    intro v9 w9 own9 g9)
  rw [← List.map_append] at own9
  have O9 := Lib.hid own9
  have B9 : Hid (Below w3.heap.size w3 w9) := Lib.hid (B8.out.grown g9 B8.out.size (own_ge O8.out))
  clear own9 g9 O8 R8 B8
  refine (form_any' _ p.length 8 w9 rfl (by omega) (by omega)).mono ?_
  rintro e w10 ⟨v10, rfl, own10, hb10⟩
  have O10 := Lib.hid (own_lain O9.out hb10)
  have R10 := Lib.hid (Rd.of_own own10)
  have B10 : Hid (Below w3.heap.size w3 w10) := Lib.hid (B9.out.trans (hb10.mono B9.out.size))
  clear O9 own10 hb10 B9
  have HSM : Hid (ms ++ zs ms.length ++ leB 8 a.length ++ leB 8 p.length = sealM a us) := Lib.hid (by
    have e : zs ms.length = zs us.length := by unfold zs; rw [HML.out, pz_both]
    unfold sealM
    rw [e, HMS.out, HUL.out])
  go_wp2_with (first
    | (at_builtin
       refine wpList_append_rd _ rfl (.tmp 58) (.tmp 62) _ rfl w3.heap.size 5 i0 _ Tryd.underlying26 hi hz0 hz1 hz2 rfl _ _ _ rfl O10.out _ (leB 8 p.length) rfl R10.out ?_ ?_ ?_
       · have := pz_lt ms.length; rw [leB_length, leB_length]; omega
       · exact B10.out.size
       intro v11 w11 own11 g11
       rw [← List.map_append, HSM.out] at own11
       have B11 : Hid (Below w3.heap.size w3 w11) := Lib.hid (B10.out.grown g11 B10.out.size (own_ge O10.out))
       have RM := Lib.hid (Rd.of_own own11)
       have KO11 := Lib.hid (KO3.out.below B11.out (by have := S3.out; omega))
       clear own11 g11 O10 R10 B10)
    | (refine wpList_load_blk rfl 22 (.tmp 11) rfl w2.heap.size rfl 22 (ko.map bv) _ KO11.out Tryd.underlying22 rfl (by rw [HOM.out]; exact HIK.out) ?_))
  refine (refTag_any ko v11 (sealM a us) w11 HOL.out RM.out (by have := sealM_length a us; have := LA.out; have := LP.out; have := HUL.out; omega)).mono ?_
  rintro e w12 ⟨rfl, hb12⟩
  obtain ⟨tg, htg⟩ : ∃ tg, tg = tagB ko (sealM a us) := ⟨_, rfl⟩
  rw [← htg]
  have HTG := Lib.hid htg
  have HTL : Hid (tg.length = 16) := Lib.hid (by rw [htg, tagB_length])
  have TGM : Hid ((tg.map bv).length = 16) := Lib.hid (by rw [List.length_map]; exact HTL.out)
  have HT12 := Lib.hid (Blk.made w12 48 (List.replicate 16 (Value.int .u8 0)))
  have B12 : Hid (Below w3.heap.size w3 w12) := Lib.hid (B11.out.trans (hb12.mono B11.out.size))
  clear hb12 RM KO11 B11 htg
  go_wp2_with (first
    | (refine wpList_store_blk rfl 48 _ _ rfl w12.heap.size 48 _ HT12.out (tg.map bv) rfl rfl (by rw [TGM.out]; rfl) (by rw [TGM.out]; exact HIT.out) (bv_one _) ?_
       intro w13 hb13 hs13
       have r13 := hb13.rd 16 16 (by rw [HTL.out]; omega) (by omega) (by unfold maxLen; omega)
       rw [List.take_of_length_le (by rw [HTL.out]; omega)] at r13
       have R13 := Lib.hid r13
       have B13 : Hid (Below w3.heap.size w3 w13) := Lib.hid ((B12.out.alloc B12.out.size (.cells (List.replicate 16 (Value.int .u8 0)).toArray 48)).trans (hs13.below.mono B12.out.size))
       have OU13 : Hid (w13.ownsRow w.heap.size 5 1 vu us.length (us.map bv)) := Lib.hid (own_mono (own_lain OU3.out B13.out) (by have := S0.out; omega))
       have D13 : Hid (Below w.heap.size w w13) := Lib.hid (D3.out.trans (B13.out.mono (by have := S3.out; omega)))
       clear hb13 hs13 r13 B12 HT12)
    | (at_builtin
       refine wpList_append_rd _ rfl (.tmp 67) (.tmp 68) _ rfl w.heap.size 5 i0 _ Tryd.underlying26 hi hz0 hz1 hz2 rfl _ _ _ rfl OU13.out _ tg rfl R13.out ?_ ?_ ?_
       · have := LP.out; have := HUL.out; have := HTL.out; omega
       · exact D13.out.size
       intro v14 w14 own14 g14))
  go_ret
  have e : us ++ tg = sealB k n a p := by
    unfold sealB sealT
    rw [HTG.out, HKO.out, HUS.out]
  rw [← List.map_append, ← List.length_append, e] at own14
  exact ⟨v14, rfl, own14, D13.out.grown g14 D13.out.size (own_ge OU13.out)⟩
end Go.Proofs.YtmoffodmbbkolaaDoor
