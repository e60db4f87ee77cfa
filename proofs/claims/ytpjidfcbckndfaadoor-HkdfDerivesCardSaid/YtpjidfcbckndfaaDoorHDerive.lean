/- The contract of hkdf's Derive: the published key of a key, a label and a number. Conditions: 32 bytes, a label of at most 700000 bytes; the table of the rounds as it is laid. -/
import Derived.Test.YtpjidfcbckndfaaDoorHExpand
import Derived.Test.YtpjidfcbckndfaaDoorRefDerive
import Derived.Test.YtpjidfcbckndfaaDoorPut
namespace Go.Proofs.YtpjidfcbckndfaaDoor
open Go.RowKit

set_option maxRecDepth 100000 in
set_option maxHeartbeats 1000000 in
theorem derive_any (key : List UInt8) (label : ByteArray) (n : Nat) (w : World) (hk : key.length = 32) (hl : label.size ≤ 700000) (hn : (n : Int) ≤ 18446744073709551615) (hs : Salts w) :
    Calls Tryd.prog 15 #[arrV key, .string label, .int .u64 (n : Int)] w fun e w' => e = .returned (arrV (derB key label.data.toList n)) ∧ Below w.heap.size w w' := by
  obtain ⟨i0, hi, hz0, hz1, hz2⟩ := info_parts info_u8
  have HI : Hid ((Tryd.prog.info? 35).map (·.size) = some 32) := by show _ = _; kernel_rfl
  have HZ : Hid ((Tryd.prog.info? 5).map (·.size) = some 1) := by show _ = _; kernel_rfl
  have HKL := Lib.hid hk
  have HNN := Lib.hid hn
  have HS := Lib.hid hs
  have lI : (label.size : Int) ≤ 700000 := by omega
  obtain ⟨L, hL⟩ : ∃ L, L = label.data.toList := ⟨_, rfl⟩
  have HLL : Hid (L.length = label.size) := by show _ = _; rw [hL]; exact Array.length_toList
  have HL := Lib.hid hL
  clear hk hn hl hL hs
  unfold arrV
  go_enter Tryd.func15, Tryd.ntmps15
  go_wp2_with (first
               | refine Go.Great.wpList_boxTo rfl _ _ rfl _ rfl w.heap.size rfl ((key.map bv).toArray) rfl ?_
               | refine wpList_string_bytes _ rfl _ _ _ 5 rfl Tryd.underlying9 Tryd.underlying22 Tryd.underlying5 label rfl (w.heap.size + 1 + 1) (by simp) (by unfold maxLen; omega) ?_
                 intro v1 w1 r1 b1
                 rw [← HL.out] at r1
                 have S1 : w.heap.size + 1 + 1 ≤ w1.heap.size := by simpa using b1.size
                 have BK1 : Hid (Blk w1 w.heap.size 35 (key.map bv)) := Lib.hid (((Blk.made w 35 (key.map bv)).alloc _).below b1 (by omega))
                 have BO1 : Hid (Blk w1 (w.heap.size + 1) 35 (List.replicate 32 (Value.int .u8 0))) := Lib.hid ((by simpa using Blk.made (w.alloc (.cells (key.map bv).toArray 35)) 35 (List.replicate 32 (Value.int .u8 0)) : Blk ((w.alloc (.cells (key.map bv).toArray 35)).alloc (.cells (List.replicate 32 (Value.int .u8 0)).toArray 35)) (w.heap.size + 1) 35 (List.replicate 32 (Value.int .u8 0))).below b1 (by omega))
                 have D1 : Hid (Below w.heap.size w w1) := Lib.hid ((((Below.refl _ _).alloc (Nat.le_refl _) _).alloc (by simp) _).trans (b1.mono (by omega)))
                 have R1 : Hid (Wr (w1.alloc (.cells #[Value.int .u8 0] 5)) (w.heap.size + 1 + 1) v1 L) := Lib.hid (r1.below ((Below.refl _ _).alloc (Nat.le_refl _) _))
                 clear r1 b1
               | at_builtin
                 refine wpList_append_wr _ rfl (.tmp 12) (.tmp 13) _ rfl (w.heap.size + 1 + 1) 5 i0 _ Tryd.underlying22 hi hz0 hz1 hz2 rfl v1 L rfl R1.out _ [0] rfl (rd_one (z := 0) rfl) (by simp) ?_ ?_ ?_
                 · have := HLL.out; simp; omega
                 · simp; omega
                 intro v2 w2 r2 g2
                 have b2 : Below (w.heap.size + 1 + 1) w1 w2 := ((Below.refl _ w1).alloc S1 _).grown g2 (by simp; omega) R1.out.ge
                 have S2 : w.heap.size + 1 + 1 ≤ w2.heap.size := Nat.le_trans S1 b2.size
                 have BK2 := Lib.hid (BK1.out.below b2 (by omega))
                 have BO2 := Lib.hid (BO1.out.below b2 (by omega))
                 have D2 : Hid (Below w.heap.size w w2) := Lib.hid (D1.out.trans (b2.mono (by omega)))
                 have R2 := Lib.hid r2.rd
                 clear r2 g2 b2 BK1 BO1 R1)
  refine (put_yes v2 (L ++ [0]) n 8 _ R2.out (by have := HLL.out; simp; omega) HNN.out (by omega) (by omega)).mono ?_
  rintro e w3 ⟨v3, rfl, own3, hb3⟩
  have R3 := Lib.hid ((Rd.of_own own3).alloc (.cells (List.replicate 32 (Value.int .u8 0)).toArray 35))
  have BK3 := Lib.hid ((BK2.out.below hb3 BK2.out.lt).alloc (.cells (List.replicate 32 (Value.int .u8 0)).toArray 35))
  have BO3 := Lib.hid ((BO2.out.below hb3 BO2.out.lt).alloc (.cells (List.replicate 32 (Value.int .u8 0)).toArray 35))
  have D3 : Hid (Below w.heap.size w w3) := Lib.hid (D2.out.trans (hb3.mono D2.out.size))
  have S3 : w.heap.size + 1 + 1 ≤ w3.heap.size := Nat.le_trans S2 hb3.size
  have BD3 : Hid (Blk (w3.alloc (.cells (List.replicate 32 (Value.int .u8 0)).toArray 35)) w3.heap.size 35 ((List.replicate 32 (0 : UInt8)).map bv)) := Lib.hid (by rw [List.map_replicate]; exact Blk.made w3 35 (List.replicate 32 (Value.int .u8 0)))
  have rk := BK3.out.rd 32 32 (by have := HKL.out; omega) (by omega) (by unfold maxLen; omega)
  rw [List.take_of_length_le (by have := HKL.out; omega)] at rk
  have RK := Lib.hid rk
  obtain ⟨bs, hbs⟩ := ex_eq (derB key L n)
  have HX : Hid (∀ W, Rd W v3 (L ++ [0] ++ leB 8 n) → Rd W (.slice (some ⟨w.heap.size, 0, none⟩) 32 32) key → Salts W → Calls Tryd.prog 13 #[.slice (some ⟨w.heap.size, 0, none⟩) 32 32, v3, .int .i64 32] W fun e w' => ∃ v, e = .returned (.tuple #[v, .int .i64 0]) ∧ Rd w' v bs ∧ Below W.heap.size W w') := Lib.hid (by
    intro W h1 h2 h3
    rw [hbs, derB]
    exact hexpand_yes _ v3 key (L ++ [0] ++ leB 8 n) 32 W h2 h1 (by have := HKL.out; omega) (by have := HLL.out; simp [leB_length]; omega) (by omega) h3)
  have HLB : Hid (bs.length = 32) := by show _ = _; rw [hbs, derB_length]
  have HRES : Hid (derB key label.data.toList n = bs) := by show _ = _; rw [hbs, HL.out]
  have HS3 := Lib.hid ((HS.out.below D3.out).alloc (.cells (List.replicate 32 (Value.int .u8 0)).toArray 35))
  clear own3 hb3 rk hbs BK2 BO2 R2
  go_wp2_with (fail)
  refine (HX.out _ R3.out RK.out HS3.out).mono ?_
  rintro e w4 ⟨v4, rfl, r4, hb4⟩
  have R4 := Lib.hid r4
  have BO4 := Lib.hid (BO3.out.below hb4 BO3.out.lt)
  have BD4 := Lib.hid (BD3.out.below hb4 BD3.out.lt)
  have D4 : Hid (Below w.heap.size w w4) := Lib.hid ((D3.out.alloc D3.out.size (.cells (List.replicate 32 (Value.int .u8 0)).toArray 35)).trans (hb4.mono (by have := D3.out.size; simp; omega)))
  obtain ⟨c0, hc0⟩ := ex_eq (List.replicate 32 (0 : UInt8))
  rw [← hc0] at BD4
  have HC0 : Hid (splice c0 0 (bs.take 32) = bs) := Lib.hid (by
    rw [hc0, List.take_of_length_le (by have := HLB.out; omega), splice, HLB.out]
    simp)
  have HLC : Hid (c0.length = 32) := Lib.hid (by rw [hc0]; simp)
  have HLN : Hid ((bs.map bv).length = 32) := by show _ = _; rw [List.length_map, HLB.out]
  clear r4 hb4 hc0 HX R3 RK BK3 BO3 BD3
  go_wp2_with (first
    | (refine wpList_copy_rd rfl (.tmp 23) (.tmp 24) _ _ rfl 5 Tryd.underlying22 HZ.out (some ⟨w3.heap.size, 0, none⟩) 32 32 rfl _ rfl bs R4.out w3.heap.size 0 c0 35 BD4.out 32 (by have := HLB.out; omega) (fun _ => rfl) (by have := HLC.out; omega) ?_
       intro w5 hb5 hs5
       rw [HC0.out] at hb5
       have BD5 := Lib.hid hb5
       have BO5 := Lib.hid (hs5.blk BO4.out (by omega))
       have D5 := Lib.hid (D4.out.trans (hs5.below.mono (by omega)))
       clear hb5 hs5)
    | (refine wpList_load_blk rfl 35 _ rfl w3.heap.size rfl 35 _ _ BD5.out Tryd.underlying35 rfl (by rw [HLN.out]; exact HI.out) ?_)
    | (refine wpList_store_blk rfl 35 _ _ rfl (w.heap.size + 1) 35 _ BO5.out (bs.map bv) rfl rfl (by rw [HLN.out]; rfl) (by rw [HLN.out]; exact HI.out) (bv_one _) ?_; intro w9 hb9 hs9))
  refine bodyPost_ret (v := arrV bs) ?_ rfl ⟨by rw [HRES.out]; rfl, ?_⟩
  · exact results_blk (ty := 35) Tryd.results15 _ w9 (w.heap.size + 1) 35 (bs.map bv) _ rfl hb9 Tryd.underlying35 rfl (by rw [HLN.out]; exact HI.out)
  · exact D5.out.trans (hs9.below.mono (by omega))
end Go.Proofs.YtpjidfcbckndfaaDoor
