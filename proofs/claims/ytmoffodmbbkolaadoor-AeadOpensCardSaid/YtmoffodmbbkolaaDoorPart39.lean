/- Part 39 of the words that the laws share: ATag. No condition of its own: each theorem says its own. -/
import Derived.Test.YtmoffodmbbkolaaDoorPart11
import Derived.Test.YtmoffodmbbkolaaDoorPart33
import Derived.Test.YtmoffodmbbkolaaDoorPart35
import Derived.Test.YtmoffodmbbkolaaDoorPart29
import Derived.Test.YtmoffodmbbkolaaDoorPart3
import Derived.Test.YtmoffodmbbkolaaDoorPart38
import Derived.Deep.Cut
import Derived.Deep.RegionHeld
import Derived.Deep.MidRow

/- The contract of aead's tagOf: the tag of what is sealed. Conditions: a key of 32 bytes, a nonce of 12, at most 10000 bytes each; the table of the places as it is laid. -/
namespace Go.Proofs.YtmoffodmbbkolaaDoor
open Go.RowKit

theorem putS_any (v : Value) (xs : List UInt8) (N : Int) (n k : Nat) (w : World) (hN : N = (n : Int)) (h : Rd w v xs) (hl : xs.length ≤ 1000000000000) (hn : (n : Int) ≤ 18446744073709551615) (h1 : 1 ≤ k) (h8 : k ≤ 8) :
    Calls Tryd.prog 25 #[v, .int .u64 N, .int .i64 (k : Int)] w (Own w 5 (xs ++ leB k n)) := hN ▸ put_yes v xs n k w h hl hn h1 h8
theorem tagRange {V : World} {B : Nat} {t : TypeId} {cs : List Value} (h : Blk V B t cs) : V.rangeAt B 0 cs := fun j v hv => by
  rw [Nat.zero_add, h.cell j]
  exact hv
theorem tagRange_take {V : World} {B : Nat} {t : TypeId} {cs : List Value} (n : Nat) (h : Blk V B t cs) : V.rangeAt B 0 (cs.take n) := fun j v hv => by
  rw [Nat.zero_add, h.cell j]
  rw [List.getElem?_take] at hv
  split at hv
  · exact hv
  · cases hv
theorem and15 (n : Nat) (h : n ≤ 1000000) : bits .and .i64 (-(n : Int)) 15 = (pz n : Int) := by
  have e1 : (BitVec.ofInt 64 (-(n : Int))).toNat = (18446744073709551616 - n) % 18446744073709551616 := by
    rw [BitVec.toNat_ofInt]
    omega
  have e2 : (BitVec.ofInt 64 15).toNat = 2 ^ 4 - 1 := by decide
  have e3 : (BitVec.ofInt 64 (-(n : Int)) &&& BitVec.ofInt 64 15).toNat = pz n := by
    rw [BitVec.toNat_and, e1, e2, Nat.and_two_pow_sub_one_eq_mod]
    unfold pz
    omega
  show IntKind.i64.wrap ((BitVec.ofInt 64 (-(n : Int)) &&& BitVec.ofInt 64 15).toNat : Int) = _
  rw [e3]
  have := pz_lt n
  exact IntWalk.i64_in _ (by omega)
set_option maxRecDepth 100000 in
theorem lacking_any (v : Value) (xs : List UInt8) (w : World) (h : Rd w v xs) (hl : xs.length ≤ 1000000) :
    Calls Tryd.prog 31 #[v] w fun e w' => e = .returned (.int .i64 (pz xs.length : Int)) ∧ w' = w := by
  obtain ⟨A, c, rfl, _, hc, _⟩ := h.form
  have lI : (xs.length : Int) ≤ 1000000 := by omega
  clear h hc hl
  go_enter Tryd.func31, Tryd.ntmps31
  go_wp2_with (fail)
  go_ret
  have e := and15 xs.length (by omega)
  exact ⟨by rw [← e]; rfl, rfl⟩
/-- What stands through the region of the tag. -/
structure TG (w : World) (R OB ZB : Nat) (bs sz : List UInt8) (vz : Value) (V : World) : Prop where
  low : Below w.heap.size w V
  ob : Blk V OB 61 (bs.map bv)
  zb : Blk V ZB 48 ((List.replicate 16 (0 : UInt8)).map bv)
  so : V.ownsRow (OB + 1) 5 1 vz sz.length (sz.map bv)
  rb : ∃ cs, cs.length = 16 ∧ Blk V R 49 cs
theorem TG.on {w V V' : World} {R OB ZB : Nat} {bs sz : List UInt8} {vz : Value} (h : TG w R OB ZB bs sz vz V) (hb : Below V.heap.size V V') : TG w R OB ZB bs sz vz V' := by
  obtain ⟨cs, h1, h2⟩ := h.rb
  exact ⟨h.low.trans (hb.mono h.low.size), h.ob.below hb h.ob.lt, h.zb.below hb h.zb.lt, own_lain h.so hb, cs, h1, h2.below hb h2.lt⟩
theorem TG.drew {w V : World} {R OB ZB : Nat} {bs sz : List UInt8} {vz : Value} (h : TG w R OB ZB bs sz vz V) : TG w R OB ZB bs sz vz V.drew := h.on (Below.refl _ _).drew
theorem TG.alloc {w V : World} {R OB ZB : Nat} {bs sz : List UInt8} {vz : Value} (h : TG w R OB ZB bs sz vz V) (o : Obj) : TG w R OB ZB bs sz vz (V.alloc o) := h.on ((Below.refl _ _).alloc (Nat.le_refl _) o)
theorem zeros_take (n : Nat) (h : n ≤ 16) : (List.replicate 16 (0 : UInt8)).take n = List.replicate n 0 := by rw [List.take_replicate, Nat.min_eq_left h]
set_option maxRecDepth 100000 in
set_option maxHeartbeats 4000000 in
theorem tagOf_any (k n : List UInt8) (va vu : Value) (a u : List UInt8) (w : World) (hk : k.length = 32) (hn : n.length = 12) (ha : Rd w va a) (hu : Rd w vu u) (la : a.length ≤ 10000) (lu : u.length ≤ 10000) (hq : Qs w) :
    Calls Tryd.prog 19 #[arrV k, arrV n, va, vu] w fun e w' => e = .returned (arrV (sealT k n a u)) ∧ Below w.heap.size w w' := by
  have HA := Lib.hid ha
  have HU := Lib.hid hu
  obtain ⟨Aa, ca, rfl, _, hca, _⟩ := ha.form
  obtain ⟨Au, cu, rfl, _, hcu, _⟩ := hu.form
  unfold maxLen at hca hcu
  have HIK : Hid ((Tryd.prog.info? 23).map (·.size) = some 32) := by show _ = _; kernel_rfl
  have HIN : Hid ((Tryd.prog.info? 25).map (·.size) = some 12) := by show _ = _; kernel_rfl
  have HIT : Hid ((Tryd.prog.info? 49).map (·.size) = some 16) := by show _ = _; kernel_rfl
  have HI64 : Hid ((Tryd.prog.info? 61).map (·.size) = some 64) := by show _ = _; kernel_rfl
  have HKL := Lib.hid hk
  have HNL := Lib.hid hn
  have HKM : Hid ((k.map bv).length = 32) := by show _ = _; rw [List.length_map, hk]
  have HNM : Hid ((n.map bv).length = 12) := by show _ = _; rw [List.length_map, hn]
  have LA : Hid (a.length ≤ 10000 ∧ u.length ≤ 10000) := Lib.hid ⟨la, lu⟩
  have HQ0 := Lib.hid hq
  obtain ⟨W0, hW0⟩ : ∃ W : World, W = (((w.alloc (.cells (k.map bv).toArray 23)).alloc (.cells (n.map bv).toArray 25)).alloc (.cells #[Value.int .u8 0, Value.int .u8 0, Value.int .u8 0, Value.int .u8 0, Value.int .u8 0, Value.int .u8 0, Value.int .u8 0, Value.int .u8 0, Value.int .u8 0, Value.int .u8 0, Value.int .u8 0, Value.int .u8 0, Value.int .u8 0, Value.int .u8 0, Value.int .u8 0, Value.int .u8 0] 49)).alloc (.cells #[Value.int .u8 0, Value.int .u8 0, Value.int .u8 0, Value.int .u8 0, Value.int .u8 0, Value.int .u8 0, Value.int .u8 0, Value.int .u8 0, Value.int .u8 0, Value.int .u8 0, Value.int .u8 0, Value.int .u8 0, Value.int .u8 0, Value.int .u8 0, Value.int .u8 0, Value.int .u8 0] 48) := ⟨_, rfl⟩
  have S0 : Hid (W0.heap.size = w.heap.size + 1 + 1 + 1 + 1) := Lib.hid (by rw [hW0]; simp)
  have D0 : Hid (Below w.heap.size w W0) := Lib.hid (by rw [hW0]; exact ((((Below.refl _ _).alloc (Nat.le_refl _) _).alloc (by simp) _).alloc (by simp; omega) _).alloc (by simp; omega) _)
  have K0 : Hid (Blk W0 w.heap.size 23 (k.map bv)) := Lib.hid (by rw [hW0]; exact (((Blk.made w _ _).alloc _).alloc _).alloc _)
  have N0 : Hid (Blk W0 (w.heap.size + 1) 25 (n.map bv)) := Lib.hid (by
    have h := ((Blk.made (w.alloc (.cells (k.map bv).toArray 23)) 25 (n.map bv)).alloc (.cells #[Value.int .u8 0, Value.int .u8 0, Value.int .u8 0, Value.int .u8 0, Value.int .u8 0, Value.int .u8 0, Value.int .u8 0, Value.int .u8 0, Value.int .u8 0, Value.int .u8 0, Value.int .u8 0, Value.int .u8 0, Value.int .u8 0, Value.int .u8 0, Value.int .u8 0, Value.int .u8 0] 49)).alloc (.cells #[Value.int .u8 0, Value.int .u8 0, Value.int .u8 0, Value.int .u8 0, Value.int .u8 0, Value.int .u8 0, Value.int .u8 0, Value.int .u8 0, Value.int .u8 0, Value.int .u8 0, Value.int .u8 0, Value.int .u8 0, Value.int .u8 0, Value.int .u8 0, Value.int .u8 0, Value.int .u8 0] 48)
    rw [World.size_alloc] at h
    rw [hW0]
    exact h)
  have R0 : Hid (Blk W0 (w.heap.size + 1 + 1) 49 (List.replicate 16 (Value.int .u8 0))) := Lib.hid (by
    have h := (Blk.made ((w.alloc (.cells (k.map bv).toArray 23)).alloc (.cells (n.map bv).toArray 25)) 49 (List.replicate 16 (Value.int .u8 0))).alloc (.cells #[Value.int .u8 0, Value.int .u8 0, Value.int .u8 0, Value.int .u8 0, Value.int .u8 0, Value.int .u8 0, Value.int .u8 0, Value.int .u8 0, Value.int .u8 0, Value.int .u8 0, Value.int .u8 0, Value.int .u8 0, Value.int .u8 0, Value.int .u8 0, Value.int .u8 0, Value.int .u8 0] 48)
    rw [World.size_alloc, World.size_alloc] at h
    rw [hW0]
    exact h)
  have Z0 : Hid (Blk W0 (w.heap.size + 1 + 1 + 1) 48 ((List.replicate 16 (0 : UInt8)).map bv)) := Lib.hid (by
    rw [List.map_replicate]
    have h := Blk.made (((w.alloc (.cells (k.map bv).toArray 23)).alloc (.cells (n.map bv).toArray 25)).alloc (.cells #[Value.int .u8 0, Value.int .u8 0, Value.int .u8 0, Value.int .u8 0, Value.int .u8 0, Value.int .u8 0, Value.int .u8 0, Value.int .u8 0, Value.int .u8 0, Value.int .u8 0, Value.int .u8 0, Value.int .u8 0, Value.int .u8 0, Value.int .u8 0, Value.int .u8 0, Value.int .u8 0] 49)) 48 (List.replicate 16 (Value.int .u8 0))
    rw [World.size_alloc, World.size_alloc, World.size_alloc] at h
    rw [hW0]
    exact h)
  have lAI : (a.length : Int) ≤ 10000 := by omega
  have lUI : (u.length : Int) ≤ 10000 := by omega
  clear hk hn ha hu la lu hq
  go_enter Tryd.func19, Tryd.ntmps19
  go_upto_region 2 with (first
    | refine Go.Great.wpList_boxTo rfl _ _ rfl _ rfl w.heap.size rfl ((k.map bv).toArray) rfl ?_
    | refine Go.Great.wpList_boxTo rfl _ _ rfl _ rfl (w.heap.size + 1) (by simp) ((n.map bv).toArray) rfl ?_)
  rw [← hW0]
  clear hW0
  go_wp2_with (first
    | (refine wpList_load_blk rfl 23 (.tmp 4) rfl w.heap.size rfl 23 (k.map bv) _ K0.out Tryd.underlying23 rfl (by rw [HKM.out]; exact HIK.out) ?_)
    | (refine wpList_load_blk rfl 25 (.tmp 5) rfl (w.heap.size + 1) rfl 25 (n.map bv) _ N0.out Tryd.underlying25 rfl (by rw [HNM.out]; exact HIN.out) ?_))
  refine (cmain_any k n 0 W0 HKL.out HNL.out (by omega) (HQ0.out.below D0.out)).mono ?_
  rintro e w1 ⟨rfl, hb1⟩
  obtain ⟨bs, hbs⟩ : ∃ bs, bs = chaBlock k 0 n := ⟨_, rfl⟩
  rw [← hbs]
  have HBS := Lib.hid hbs
  have HBL : Hid (bs.length = 64) := Lib.hid (by rw [hbs, chaBlock_length])
  have HBM : Hid ((bs.map bv).length = 64) := Lib.hid (by rw [List.length_map]; exact HBL.out)
  have SS := S0.out
  have R1 := Lib.hid (R0.out.below hb1 (by omega))
  have Z1 := Lib.hid (Z0.out.below hb1 (by omega))
  have D1 : Hid (Below w.heap.size w w1) := Lib.hid (D0.out.trans (hb1.mono (by omega)))
  have S1 : Hid (w.heap.size + 1 + 1 + 1 + 1 ≤ w1.heap.size) := Lib.hid (by have := hb1.size; omega)
  have M1 := Lib.hid (Blk.made w1 61 (List.replicate 64 (Value.int .u8 0)))
  clear hb1 hbs K0 N0 R0 Z0 D0
  go_upto_region 3 with (refine wpList_store_blk rfl 61 _ _ rfl w1.heap.size 61 _ M1.out (bs.map bv) rfl rfl (by rw [HBM.out]; rfl) (by rw [HBM.out]; exact HI64.out) (bv_one _) ?_; intro w2 hb2 hs2)
  have hsz2 := hs2.size
  rw [World.size_alloc] at hsz2
  have SS1 := S1.out
  have M2 := Lib.hid hb2
  have R2 := Lib.hid (hs2.blk (R1.out.alloc _) (by omega))
  have Z2 := Lib.hid (hs2.blk (Z1.out.alloc _) (by omega))
  have D2 : Hid (Below w.heap.size w w2) := Lib.hid ((D1.out.alloc D1.out.size _).trans (hs2.below.mono (by omega)))
  have SZ2 : Hid (w2.heap.size = w1.heap.size + 1) := Lib.hid hsz2
  clear hb2 hs2 R1 Z1 D1 M1 hsz2
  go_wp2_with (fail)
  refine (putS_any _ [] _ a.length 8 _ rfl (Rd.nil _) (by simp) (by have := LA.out; omega) (by omega) (by omega)).mono ?_
  rintro e w4 ⟨v4, rfl, own4, hb4⟩
  have V4 := Lib.hid (Rd.of_own own4)
  have B4 : Hid (Below w2.heap.size w2 w4) := Lib.hid hb4
  clear own4 hb4
  go_wp2_with (fail)
  refine (putS_any _ _ _ u.length 8 _ rfl V4.out (by simp [leB_length]) (by have := LA.out; omega) (by omega) (by omega)).mono ?_
  rintro e w5 ⟨v5, rfl, own5, hb5⟩
  obtain ⟨R, hR⟩ : ∃ R, R = w.heap.size + 1 + 1 := ⟨_, rfl⟩
  obtain ⟨OB, hOB⟩ : ∃ R, R = w1.heap.size := ⟨_, rfl⟩
  obtain ⟨ZB, hZB⟩ : ∃ R, R = w.heap.size + 1 + 1 + 1 := ⟨_, rfl⟩
  obtain ⟨sz, hsz⟩ : ∃ sz, sz = leB 8 a.length ++ leB 8 u.length := ⟨_, rfl⟩
  have HSZ := Lib.hid hsz
  have HSL : Hid (sz.length = 16) := Lib.hid (by rw [hsz, List.length_append, leB_length, leB_length])
  have B4o := B4.out.size
  have own5' : w5.ownsRow w4.heap.size 5 1 v5 sz.length (sz.map bv) := by rw [hsz]; simpa using own5
  have SZ2o := SZ2.out
  have T5 : TG w R OB ZB bs sz v5 w5 := by
    have B5 : Below w2.heap.size w2 w5 := B4.out.trans (hb5.mono (by omega))
    exact ⟨D2.out.trans (B5.mono (by omega)), by rw [hOB]; exact M2.out.below B5 (by omega), by rw [hZB]; exact Z2.out.below B5 (by omega), own_mono own5' (by omega), _, List.length_replicate .., by rw [hR]; exact R2.out.below B5 (by omega)⟩
  have HNE : Hid (w.heap.size ≤ R ∧ R < OB ∧ R < ZB) := Lib.hid (by omega)
  obtain ⟨A5, c5, rfl⟩ := own_shape T5.so
  rw [← hZB, ← hR, ← hOB]
  clear hR hOB hZB hsz own5 own5' hb5 V4 B4 B4o M2 R2 Z2 D2 SZ2 SZ2o S1 SS1 S0 SS
  obtain ⟨pa, hpa⟩ : ∃ q, q = pz a.length := ⟨_, rfl⟩
  obtain ⟨pu, hpu⟩ : ∃ q, q = pz u.length := ⟨_, rfl⟩
  have hpa16 : pa ≤ 16 := by rw [hpa]; have := pz_lt a.length; omega
  have hpu16 : pu ≤ 16 := by rw [hpu]; have := pz_lt u.length; omega
  have pI : (pa : Int) ≤ 16 := by omega
  have qI : (pu : Int) ≤ 16 := by omega
  have HPA : Hid (pa ≤ 16 ∧ pu ≤ 16 ∧ zs a.length = List.replicate pa 0 ∧ zs u.length = List.replicate pu 0) := Lib.hid ⟨hpa16, hpu16, by rw [hpa]; rfl, by rw [hpu]; rfl⟩
  have HL1 : Hid (∀ V, TG w R OB ZB bs sz (.slice A5 sz.length c5) V → Calls Tryd.prog 31 #[.slice Aa a.length ca] V fun e V' => e = .returned (.int .i64 (pa : Int)) ∧ TG w R OB ZB bs sz (.slice A5 sz.length c5) V') := Lib.hid fun V hV => by
    refine (lacking_any _ a V (HA.out.below hV.low) (by have := LA.out; omega)).mono fun e V' ⟨he, hb⟩ => ?_
    subst hb
    rw [hpa]
    exact ⟨he, hV⟩
  have HL2 : Hid (∀ V, TG w R OB ZB bs sz (.slice A5 sz.length c5) V → Calls Tryd.prog 31 #[.slice Au u.length cu] V fun e V' => e = .returned (.int .i64 (pu : Int)) ∧ TG w R OB ZB bs sz (.slice A5 sz.length c5) V') := Lib.hid fun V hV => by
    refine (lacking_any _ u V (HU.out.below hV.low) (by have := LA.out; omega)).mono fun e V' ⟨he, hb⟩ => ?_
    subst hb
    rw [hpu]
    exact ⟨he, hV⟩
  clear hpa hpu hpa16 hpu16
  have HKO : Hid ((bs.take 32).length = 32) := Lib.hid (by rw [List.length_take, HBL.out]; rfl)
  have HKM2 : Hid (((bs.map bv).take 32).length = 32) := Lib.hid (by rw [List.length_take, HBM.out]; rfl)
  have hu1 := Tryd.underlying23
  have hsi1 : (Tryd.prog.info? 23).map (·.size) = some ((bs.map bv).take 32).length := by rw [HKM2.out]; exact HIK.out
  obtain ⟨tg, htg⟩ : ∃ tg, tg = sealT k n a u := ⟨_, rfl⟩
  have HTG := Lib.hid htg
  have TGM : Hid ((tg.map bv).length = 16) := Lib.hid (by rw [List.length_map, htg, sealT_length])
  have HFL : Hid ([a, List.replicate pa 0, u, List.replicate pu 0, sz].flatten = sealM a u) := Lib.hid (by
    unfold sealM
    rw [HPA.out.2.2.1, HPA.out.2.2.2, HSZ.out]
    simp [List.append_assoc])
  have HTC : Hid (∀ V, TG w R OB ZB bs sz (.slice A5 sz.length c5) V → Calls Tryd.prog 30 #[.agg ((bs.map bv).take 32).toArray, .slice (some ⟨V.heap.size, 0, none⟩) 5 5] (V.alloc (.cells #[.slice Aa a.length ca, .slice (some ⟨ZB, 0, none⟩) pa 16, .slice Au u.length cu, .slice (some ⟨ZB, 0, none⟩) pu 16, .slice A5 sz.length c5] 26)) fun e V' => e = .returned (arrV tg) ∧ TG w R OB ZB bs sz (.slice A5 sz.length c5) V') := Lib.hid fun V hV => by
    have z1 := hV.zb.rd pa 16 (by simp; exact HPA.out.1) HPA.out.1 (by unfold maxLen; omega)
    have z2 := hV.zb.rd pu 16 (by simp; exact HPA.out.2.1) HPA.out.2.1 (by unfold maxLen; omega)
    rw [zeros_take _ HPA.out.1] at z1
    rw [zeros_take _ HPA.out.2.1] at z2
    have hr : Rs (V.alloc (.cells #[.slice Aa a.length ca, .slice (some ⟨ZB, 0, none⟩) pa 16, .slice Au u.length cu, .slice (some ⟨ZB, 0, none⟩) pu 16, .slice A5 sz.length c5] 26)) (.slice (some ⟨V.heap.size, 0, none⟩) 5 5) [a, List.replicate pa 0, u, List.replicate pu 0, sz] :=
      rs_lit (us := [_, _, _, _, _]) 5 rfl ⟨HA.out.below hV.low, z1, HU.out.below hV.low, z2, Rd.of_own hV.so, trivial⟩
    have h := tagg (bs.take 32) _ [a, List.replicate pa 0, u, List.replicate pu 0, sz] _ HKO.out (.inl hr) (by simp) (by rw [HFL.out]; have := sealM_length a u; have := LA.out; omega)
    rw [HFL.out] at h
    have et : tagB (bs.take 32) (sealM a u) = tg := by rw [HTG.out, HBS.out]; rfl
    rw [et] at h
    rw [← List.map_take]
    exact h.mono fun e V' ⟨he, hb⟩ => ⟨he, (hV.alloc _).on hb⟩
  have HTCd : Hid (∀ V, TG w R OB ZB bs sz (.slice A5 sz.length c5) V → Calls Tryd.prog 30 #[.agg ((bs.map bv).take 32).toArray, .slice (some ⟨V.heap.size, 0, none⟩) 5 5] (V.alloc (.cells #[.slice Aa a.length ca, .slice (some ⟨ZB, 0, none⟩) pa 16, .slice Au u.length cu, .slice (some ⟨ZB, 0, none⟩) pu 16, .slice A5 sz.length c5] 26)).drew fun e V' => e = .returned (arrV tg) ∧ TG w R OB ZB bs sz (.slice A5 sz.length c5) V') := Lib.hid fun V hV => HTC.out V.drew hV.drew
  clear htg
  go_upto_region 4 with (fail)
  refine wp_region_held_drew (S := (TG w R OB ZB bs sz (.slice A5 sz.length c5))) (by kernel_rfl) T5.drew (fun hHeld => ?_)
  refine take_put (i := 0) (oi := _) (v := ?_) 23 rfl rfl (by kernel_rfl) (by kernel_rfl) (by kernel_rfl) (fun _ _ _ h => h) (Or.inl ⟨by rfl, ?hy0⟩) (by assumption) ?_
  case hy0 => ((intro W hSw); (try dsimp only at hSw); go_simp; try (with_reducible rfl))
  simp only [List.set_cons_zero, List.set_cons_succ]
  refine take_put (i := 1) (oi := _) (v := .pointer (some ⟨OB, 0, none⟩)) 24 rfl rfl (by kernel_rfl) (by kernel_rfl) (by kernel_rfl) (fun _ _ _ h => h) (Or.inl ⟨by rfl, ?hy1⟩) (by assumption) ?_
  case hy1 => ((intro W hSw); (try dsimp only at hSw); go_simp; simp [Instr.arrayAt, underlying, hu1, Result.andThen])
  simp only [List.set_cons_zero, List.set_cons_succ]
  refine take_put (i := 2) (oi := _) (v := _) 25 rfl rfl (by kernel_rfl) (by kernel_rfl) (by kernel_rfl) (fun _ _ _ h => h) (yieldsIf_load_mid (by rfl) _ _ rfl OB 0 rfl ((bs.map bv).take 32) _ (fun _ h => tagRange_take 32 h.ob) hu1 rfl hsi1) (by assumption) ?_
  simp only [List.set_cons_zero, List.set_cons_succ]
  refine take_put (i := 3) (oi := _) (v := ?_) 26 rfl rfl (by kernel_rfl) (by kernel_rfl) (by kernel_rfl) (fun _ _ _ h => h) (Or.inl ⟨by rfl, ?hy3⟩) (by assumption) ?_
  case hy3 => ((intro W hSw); (try dsimp only at hSw); go_simp; try (with_reducible rfl))
  simp only [List.set_cons_zero, List.set_cons_succ]
  refine take_put (i := 4) (oi := _) (v := ?_) 27 rfl rfl (by kernel_rfl) (by kernel_rfl) (by kernel_rfl) (fun _ _ _ h => h) (Or.inl ⟨by rfl, ?hy4⟩) (by assumption) ?_
  case hy4 => ((intro W hSw); (try dsimp only at hSw); go_simp; try (with_reducible rfl))
  simp only [List.set_cons_zero, List.set_cons_succ]
  refine take_put (i := 7) (oi := _) (v := ?_) 30 rfl rfl (by kernel_rfl) (by kernel_rfl) (by kernel_rfl) (fun _ _ _ h => h) (Or.inl ⟨by rfl, ?hy7⟩) (by assumption) ?_
  case hy7 => ((intro W hSw); (try dsimp only at hSw); go_simp; try (with_reducible rfl))
  simp only [List.set_cons_zero, List.set_cons_succ]
  refine take_put (i := 8) (oi := _) (v := ?_) 31 rfl rfl (by kernel_rfl) (by kernel_rfl) (by kernel_rfl) (fun _ _ _ h => h) (Or.inl ⟨by rfl, ?hy8⟩) (by assumption) ?_
  case hy8 => ((intro W hSw); (try dsimp only at hSw); go_simp; try (with_reducible rfl))
  simp only [List.set_cons_zero, List.set_cons_succ]
  refine take_put (i := 11) (oi := _) (v := ?_) 34 rfl rfl (by kernel_rfl) (by kernel_rfl) (by kernel_rfl) (fun _ _ _ h => h) (Or.inl ⟨by rfl, ?hy11⟩) (by assumption) ?_
  case hy11 => ((intro W hSw); (try dsimp only at hSw); go_simp; try (with_reducible rfl))
  simp only [List.set_cons_zero, List.set_cons_succ]
  refine wpAnyH_ready (rs := [5]) (by kernel_rfl) (by simp) ?_
  refine AllReadyH.cons (o := _) rfl (fun K hK => ?_) AllReadyH.nil
  go_simp
  (with_reducible refine (HL1.out _ ?_).mono ?_; (first | assumption | exact TG.drew (by assumption) | exact TG.alloc (by assumption) _ | exact TG.drew (TG.alloc (by assumption) _)); rintro e V5 ⟨rfl, sv5⟩)
  refine hK.out _ _ sv5 (fun hHeld => ?_)
  clear hK K
  try simp only [Act.put, List.setIfInBounds_toArray, List.set_cons_zero, List.set_cons_succ]
  refine take_put (i := 6) (oi := _) (v := ?_) 29 rfl rfl (by kernel_rfl) (by kernel_rfl) (by kernel_rfl) (fun _ _ _ h => h) (Or.inl ⟨by rfl, ?hy6⟩) (by assumption) ?_
  case hy6 => ((intro W hSw); (try dsimp only at hSw); go_simp; try (with_reducible rfl))
  simp only [List.set_cons_zero, List.set_cons_succ]
  refine wpAnyH_ready (rs := [9]) (by kernel_rfl) (by simp) ?_
  refine AllReadyH.cons (o := _) rfl (fun K hK => ?_) AllReadyH.nil
  go_simp
  (with_reducible refine (HL2.out _ ?_).mono ?_; (first | assumption | exact TG.drew (by assumption) | exact TG.alloc (by assumption) _ | exact TG.drew (TG.alloc (by assumption) _)); rintro e V9 ⟨rfl, sv9⟩)
  refine hK.out _ _ sv9 (fun hHeld => ?_)
  clear hK K
  try simp only [Act.put, List.setIfInBounds_toArray, List.set_cons_zero, List.set_cons_succ]
  refine take_put (i := 10) (oi := _) (v := ?_) 33 rfl rfl (by kernel_rfl) (by kernel_rfl) (by kernel_rfl) (fun _ _ _ h => h) (Or.inl ⟨by rfl, ?hy10⟩) (by assumption) ?_
  case hy10 => ((intro W hSw); (try dsimp only at hSw); go_simp; try (with_reducible rfl))
  simp only [List.set_cons_zero, List.set_cons_succ]
  refine wpAnyH_ready (rs := [12]) (by kernel_rfl) (by simp) ?_
  refine AllReadyH.cons (o := _) rfl (fun K hK => ?_) AllReadyH.nil
  go_simp
  refine hK.out _ _ ?_ (fun hHeld => ?_)
  · (first | assumption | exact TG.drew (by assumption) | exact TG.alloc (by assumption) _ | exact TG.drew (TG.alloc (by assumption) _))
  clear hK K
  try simp only [Act.put, List.setIfInBounds_toArray, List.set_cons_zero, List.set_cons_succ]
  refine wpAnyH_ready (rs := [13]) (by kernel_rfl) (by simp) ?_
  refine AllReadyH.cons (o := _) rfl (fun K hK => ?_) AllReadyH.nil
  go_simp
  first | (with_reducible refine (HTC.out _ ?_).mono ?_; (first | assumption | exact TG.drew (by assumption) | exact TG.alloc (by assumption) _ | exact TG.drew (TG.alloc (by assumption) _)); rintro e V9 ⟨rfl, sv9⟩) | (with_reducible refine (HTCd.out _ ?_).mono ?_; (first | assumption | exact TG.drew (by assumption) | exact TG.alloc (by assumption) _ | exact TG.drew (TG.alloc (by assumption) _)); rintro e V9 ⟨rfl, sv9⟩)
  refine hK.out _ _ sv9 (fun hHeld => ?_)
  clear hK K
  try simp only [Act.put, List.setIfInBounds_toArray, List.set_cons_zero, List.set_cons_succ]
  obtain ⟨rcs, hrl, hrb⟩ := sv9.rb
  refine wpAnyH_ready (rs := [14]) (by kernel_rfl) (by simp) ?_
  refine AllReadyH.cons (o := _) rfl (fun K hK => ?_) AllReadyH.nil
  refine step_store_arr rfl 49 (.tmp 8) (.tmp 36) rfl R 49 _ hrb (tg.map bv) rfl rfl (by rw [TGM.out, hrl]) (by rw [TGM.out]; exact HIT.out) (bv_one _) ?_
  intro w9 hb9 hs9
  have hne := HNE.out
  have T9 : TG w R OB ZB bs sz (.slice A5 sz.length c5) w9 := ⟨sv9.low.trans (hs9.below.mono (by omega)), hs9.blk sv9.ob (by omega), hs9.blk sv9.zb (by omega), own_sole sv9.so hs9 (fun e => by have := own_ge sv9.so R e; omega), _, TGM.out, hb9⟩
  refine hK.out _ _ T9 (fun hHeld => ?_)
  clear hK K
  try simp only [Act.put, List.setIfInBounds_toArray]
  refine wpAnyH_done (by kernel_rfl) ?_ _
  go_wp2_with (fail)
  refine bodyPost_ret (v := arrV tg) ?_ rfl ⟨by rw [HTG.out], T9.low⟩
  exact results_blk (ty := 49) Tryd.results19 _ w9 R 49 (tg.map bv) _ rfl hb9 Tryd.underlying49 rfl (by rw [TGM.out]; exact HIT.out)
end Go.Proofs.YtmoffodmbbkolaaDoor
