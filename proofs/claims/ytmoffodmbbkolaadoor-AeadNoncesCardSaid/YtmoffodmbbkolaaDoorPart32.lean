/- Part 32 of the words that the laws share: LTag. No condition of its own: each theorem says its own. -/
import Derived.Test.YtmoffodmbbkolaaDoorPart28
import Derived.Test.YtmoffodmbbkolaaDoorPart3
import Derived.Test.YtmoffodmbbkolaaDoorPart29
import Derived.Deep.RegionHeld3
import Derived.Deep.RegionLaw
import Derived.Deep.DrawnRows

/- The contract of poly's tag: the lowest 16 bytes of a number. Conditions: five limbs, none above 2^60. -/
namespace Go.Proofs.YtmoffodmbbkolaaDoor
open Go.RowKit
attribute [local go_sem ↓] Go.wp_at_zero Go.wp_at_succ

theorem or_high (i x y : Nat) (hx : x < 2 ^ i) (h : x + 2 ^ i * y < 18446744073709551616) : bits .or .u64 (x : Int) ((2 ^ i * y : Nat) : Int) = ((x + 2 ^ i * y : Nat) : Int) := by
  have h1 := u64_or_nat x (2 ^ i * y) (by omega) (by omega)
  have h2 := Nat.two_pow_add_eq_or_of_lt hx y
  rw [h1, Nat.or_comm, ← h2, Nat.add_comm]
theorem low_or (a b c : Nat) (ha : a < 67108864) (hb : b < 67108864) (_hc : c < 67108864) : bits .or .u64 (bits .or .u64 (a : Int) ((b : Int) * 67108864)) (IntKind.u64.wrap ((c : Int) * 4503599627370496)) = ((lowN a b c : Nat) : Int) := by
  have e1 : (b : Int) * 67108864 = ((2 ^ 26 * b : Nat) : Int) := by simp; omega
  have e2 : IntKind.u64.wrap ((c : Int) * 4503599627370496) = ((2 ^ 52 * (c % 4096) : Nat) : Int) := by
    rw [show IntKind.u64.wrap ((c : Int) * 4503599627370496) = ((c : Int) * 4503599627370496) % 18446744073709551616 from by simp [IntKind.wrap, IntKind.bits, IntKind.signed]]
    simp
    omega
  rw [e1, or_high 26 a b (by simpa using ha) (by simp; omega), e2, or_high 52 _ (c % 4096) (by simp; omega) (by simp; omega)]
  unfold lowN
  congr 1
  simp
  omega
theorem high_or (c d e : Nat) (hc : c < 67108864) (hd : d < 67108864) (_he : e < 67108864) : bits .or .u64 (bits .or .u64 ((c : Int) / 4096) ((d : Int) * 16384)) (IntKind.u64.wrap ((e : Int) * 1099511627776)) = ((highN c d e : Nat) : Int) := by
  have e0 : (c : Int) / 4096 = ((c / 4096 : Nat) : Int) := by omega
  have e1 : (d : Int) * 16384 = ((2 ^ 14 * d : Nat) : Int) := by simp; omega
  have e2 : IntKind.u64.wrap ((e : Int) * 1099511627776) = ((2 ^ 40 * (e % 16777216) : Nat) : Int) := by
    rw [show IntKind.u64.wrap ((e : Int) * 1099511627776) = ((e : Int) * 1099511627776) % 18446744073709551616 from by simp [IntKind.wrap, IntKind.bits, IntKind.signed]]
    simp
    omega
  rw [e0, e1, or_high 14 _ d (by simp; omega) (by simp; omega), e2, or_high 40 _ (e % 16777216) (by simp; omega) (by simp; omega)]
  unfold highN
  congr 1
  simp
  omega
theorem lowN_lt (a b c : Nat) : lowN a b c < 18446744073709551616 := Nat.mod_lt _ (by decide)
theorem highN_lt (c d e : Nat) : highN c d e < 18446744073709551616 := Nat.mod_lt _ (by decide)
/-- What the walk carries along: the new array, and the result's. -/
def TagS (w : World) (T : Nat) (V : World) : Prop := Below w.heap.size w V ∧ (∃ zs : List UInt8, zs.length = 16 ∧ Blk V T 49 (zs.map bv)) ∧ Blk V (w.heap.size + 1) 49 (List.replicate 16 (Value.int .u8 0))
theorem TagS.drew {w : World} {T : Nat} {V : World} (h : TagS w T V) : TagS w T V.drew := ⟨h.1.drew, h.2.1, h.2.2.drew⟩
theorem TagS.on {w : World} {T : Nat} {V V' : World} (h : TagS w T V) (hb : Below V.heap.size V V') : TagS w T V' :=
  ⟨h.1.trans (hb.mono h.1.size), (by obtain ⟨zs, h1, h2⟩ := h.2.1; exact ⟨zs, h1, h2.below hb h2.lt⟩), h.2.2.below hb h.2.2.lt⟩
theorem TagS.copied {w : World} {T : Nat} {V V' : World} {ys : List UInt8} (h : TagS w T V) (hT : w.heap.size + 1 < T) (hl : ys.length = 16) (hb : Blk V' T 49 (ys.map bv)) (hs : Sole V V' T) : TagS w T V' :=
  ⟨h.1.trans (hs.below.mono (by omega)), ⟨ys, hl, hb⟩, hs.blk h.2.2 (by omega)⟩
theorem splice_all {zs bs : List UInt8} (h1 : zs.length = 16) (h2 : bs.length = 16) : splice zs 0 (bs.take 16) = bs := by
  have e : bs.take 16 = bs := List.take_of_length_le (by omega)
  rw [e]
  simp [splice, h1, h2]
set_option maxRecDepth 100000 in
set_option maxHeartbeats 2000000 in
theorem ptag_any (ns : List Nat) (V : Nat) (w : World) (hp : HanP ns 0 0 V) :
    Calls Tryd.prog 45 #[.agg (ns.map wq).toArray] w fun e w' => e = .returned (arrV (leB 16 V)) ∧ Below w.heap.size w w' := by
  have HI : Hid ((Tryd.prog.info? 80).map (·.size) = some 5) := Lib.hid num_info
  have HIT : Hid ((Tryd.prog.info? 49).map (·.size) = some 16) := by show _ = _; kernel_rfl
  have HI8 : Hid ((Tryd.prog.info? 5).map (·.size) = some 1) := by show _ = _; kernel_rfl
  obtain ⟨W1, hW1⟩ : ∃ W : World, W = (w.alloc (.cells (ns.map wq).toArray 80)).alloc (.cells (List.replicate 16 (Value.int .u8 0)).toArray 49) := ⟨_, rfl⟩
  have D1 : Hid (Below w.heap.size w W1) := Lib.hid (by rw [hW1]; exact ((Below.refl _ _).alloc (Nat.le_refl _) _).alloc (by simp) _)
  have A1 : Hid (Blk W1 w.heap.size 80 (ns.map wq)) := Lib.hid (by rw [hW1]; exact (Blk.made w _ _).alloc _)
  have R1 : Hid (Blk W1 (w.heap.size + 1) 49 (List.replicate 16 (Value.int .u8 0))) := Lib.hid (by
    have h := Blk.made (w.alloc (.cells (ns.map wq).toArray 80)) 49 (List.replicate 16 (Value.int .u8 0))
    rw [World.size_alloc] at h
    rw [hW1]
    exact h)
  have HP := Lib.hid hp
  clear hp
  have HC : Hid (Calls Tryd.prog 52 #[.pointer (some ⟨w.heap.size, 0, none⟩)] W1 (HanPost W1 w.heap.size 80 V)) := Lib.hid (han_any w.heap.size V _ ns W1 A1.out HP.out)
  subst hW1
  go_enter Tryd.func45, Tryd.ntmps45
  go_wp2_with (first
               | refine Go.Great.wpList_boxTo rfl _ _ rfl _ rfl w.heap.size rfl ((ns.map wq).toArray) rfl ?_)
  refine (HC.out).mono ?_
  rintro e w2 ⟨c, out, rfl, hh, hb, hs⟩
  have hle := leB_rest hh
  obtain ⟨n0, n1, n2, n3, n4, rfl⟩ := five hh.1
  have l0 : n0 < 67108864 := hh.2.2.1 0 (by omega) (by omega)
  have l1 : n1 < 67108864 := hh.2.2.1 1 (by omega) (by omega)
  have l2 : n2 < 67108864 := hh.2.2.1 2 (by omega) (by omega)
  have l3 : n3 < 67108864 := hh.2.2.1 3 (by omega) (by omega)
  have l4 : n4 < 67108864 := hh.2.2.1 4 (by omega) (by omega)
  have c0 : w2.cell? ⟨w.heap.size, 0, none⟩ = some (.int .u64 (n0 : Int)) := hb.cell 0
  have c1 : w2.cell? ⟨w.heap.size, 1, none⟩ = some (.int .u64 (n1 : Int)) := hb.cell 1
  have c2 : w2.cell? ⟨w.heap.size, 2, none⟩ = some (.int .u64 (n2 : Int)) := hb.cell 2
  have c3 : w2.cell? ⟨w.heap.size, 3, none⟩ = some (.int .u64 (n3 : Int)) := hb.cell 3
  have c4 : w2.cell? ⟨w.heap.size, 4, none⟩ = some (.int .u64 (n4 : Int)) := hb.cell 4
  have k0 : (n0 : Int) ≤ 67108863 := by omega
  have k1 : (n1 : Int) ≤ 67108863 := by omega
  have k2 : (n2 : Int) ≤ 67108863 := by omega
  have k3 : (n3 : Int) ≤ 67108863 := by omega
  have k4 : (n4 : Int) ≤ 67108863 := by omega
  have HB := Lib.hid hb
  have HS := Lib.hid hs
  have f1 := low_or n0 n1 n2 l0 l1 l2
  have f2 := high_or n2 n3 n4 l2 l3 l4
  have HLH := Lib.hid (halves_leB n0 n1 n2 n3 n4 l0 l1 l2)
  obtain ⟨lo, hlo⟩ : ∃ x, x = lowN n0 n1 n2 := ⟨_, rfl⟩
  obtain ⟨hi, hhi⟩ : ∃ x, x = highN n2 n3 n4 := ⟨_, rfl⟩
  rw [← hlo, ← hhi] at HLH
  rw [← hlo] at f1
  rw [← hhi] at f2
  have HLO : Hid ((lo : Int) ≤ 18446744073709551615) := Lib.hid (by have := lowN_lt n0 n1 n2; omega)
  have HHI : Hid ((hi : Int) ≤ 18446744073709551615) := Lib.hid (by have := highN_lt n2 n3 n4; omega)
  have HLE := Lib.hid hle
  clear hb hs hh hle hlo hhi l0 l1 l2 l3 l4
  go_wp2_with (fail)
  clear f1 f2 c0 c1 c2 c3 c4 k0 k1 k2 k3 k4
  obtain ⟨T, hT⟩ : ∃ T, T = w2.heap.size := ⟨_, rfl⟩
  obtain ⟨W3, hW3⟩ : ∃ W : World, W = w2.alloc (.cells (List.replicate 16 (Value.int .u8 0)).toArray 49) := ⟨_, rfl⟩
  have HT3 : Hid (Blk W3 T 49 ((List.replicate 16 (0 : UInt8)).map bv)) := Lib.hid (by rw [hW3, hT]; exact Blk.made w2 _ _)
  have hlt : w.heap.size + 1 < w2.heap.size := by rw [HS.out.size]; simp
  have HR3 : Hid (Blk W3 (w.heap.size + 1) 49 (List.replicate 16 (Value.int .u8 0))) := Lib.hid (by rw [hW3]; exact (HS.out.blk R1.out (by omega)).alloc _)
  have HD3 : Hid (Below w.heap.size w W3) := Lib.hid (by rw [hW3]; exact (D1.out.trans HS.out.below).alloc (by omega) _)
  have HTN : Hid (w.heap.size + 1 < T) := Lib.hid (by omega)
  have hW3' := hW3
  simp only [List.replicate_succ, List.replicate_zero] at hW3'
  rw [← hT, ← hW3']
  clear hT hW3 hW3' hlt HS R1 D1 HC A1
  have C1 : Hid (∀ V, TagS w T V → Calls Tryd.prog 25 #[.slice none 0 0, .int .u64 (lo : Int), .int .i64 8] V fun e V' => ∃ v, e = .returned v ∧ Rd V' v (leB 8 lo) ∧ TagS w T V') := Lib.hid fun V hV => (put_yes (.slice none 0 0) [] lo 8 V (Rd.nil V) (by simp) HLO.out (by omega) (by omega)).mono fun e V' ⟨v, he, ho, hb⟩ => ⟨v, he, Rd.of_own ho, hV.on hb⟩
  have C2 : Hid (∀ v V, Rd V v (leB 8 lo) → TagS w T V → Calls Tryd.prog 25 #[v, .int .u64 (hi : Int), .int .i64 8] V fun e V' => ∃ u, e = .returned u ∧ Rd V' u (leB 8 lo ++ leB 8 hi) ∧ TagS w T V') := Lib.hid fun v V hv hV => (put_yes v (leB 8 lo) hi 8 V hv (by rw [leB_length]; omega) HHI.out (by omega) (by omega)).mono fun e V' ⟨u, he, ho, hb⟩ => ⟨u, he, Rd.of_own ho, hV.on hb⟩
  have hS : TagS w T W3 := ⟨HD3.out, ⟨_, by simp, HT3.out⟩, HR3.out⟩
  have HL8 : Hid ((leB 8 lo ++ leB 8 hi).length = 16) := Lib.hid (by rw [List.length_append, leB_length, leB_length])
  obtain ⟨bs, hbs⟩ : ∃ bs, bs = leB 8 lo ++ leB 8 hi := ⟨_, rfl⟩
  rw [← hbs] at HL8 HLH C2
  clear hbs
  go_region_held3 (TagS w T) (first | assumption | (exact TagS.drew (by assumption)))
    (first
      | (go_at_call_of 25 (Value.slice none 0 0); refine (C1.out _ ?_).mono ?_; (first | assumption | exact TagS.drew (by assumption)); rintro e v1 ⟨u1, rfl, r1, s1⟩)
      | (go_at_call_of 25 u1; refine (C2.out u1 _ ?_ ?_).mono ?_; (first | assumption | exact r1 | exact r1.drew); (first | assumption | exact TagS.drew (by assumption)); rintro e v2 ⟨u2, rfl, r2, s2⟩)
      | (obtain ⟨zs, hz16, hzb⟩ := s2.2.1; refine step_copy_rd rfl (.tmp 28) (.tmp 32) 26 26 rfl 5 Tryd.underlying26 HI8.out (some ⟨T, 0, none⟩) 16 16 (by simp [Act.eval]) u2 (by simp [Act.eval]) bs r2 T 0 zs 49 hzb 16 (by rw [HL8.out]; rfl) (fun _ => rfl) (by rw [hz16]; omega) ?_; intro v3 hb3 hs3; rw [splice_all hz16 HL8.out] at hb3; have s3 := s2.copied HTN.out HL8.out hb3 hs3))
  have HB3 := Lib.hid hb3
  have HR9 := Lib.hid s3.2.2
  have HD9 := Lib.hid s3.1
  have HLB : Hid ((bs.map bv).length = 16) := by show _ = _; rw [List.length_map]; exact HL8.out
  clear hb3 hs3 hzb hz16 s3 s2 s1 r1 r2 hS
  go_wp2_with (first
    | (refine wpList_load_blk rfl 49 (.tmp 5) rfl T rfl 49 (bs.map bv) _ HB3.out Tryd.underlying49 rfl (by rw [HLB.out]; exact HIT.out) ?_)
    | (refine wpList_store_blk rfl 49 (.tmp 2) (.tmp 34) rfl (w.heap.size + 1) 49 _ HR9.out (bs.map bv) rfl rfl (by rw [HLB.out]; rfl) (by rw [HLB.out]; exact HIT.out) (bv_one _) ?_; intro w9 hb9 hs9))
  refine bodyPost_ret (v := arrV (leB 16 V)) ?_ rfl ⟨rfl, HD9.out.trans (hs9.below.mono (by omega))⟩
  rw [← HLE.out, ← HLH.out]
  exact results_blk (ty := 49) Tryd.results45 _ w9 (w.heap.size + 1) 49 (bs.map bv) _ rfl hb9 Tryd.underlying49 rfl (by rw [HLB.out]; exact HIT.out)
end Go.Proofs.YtmoffodmbbkolaaDoor
