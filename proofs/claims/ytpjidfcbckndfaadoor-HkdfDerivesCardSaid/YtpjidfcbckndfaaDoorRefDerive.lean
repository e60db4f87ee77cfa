/- The contract of the third reference's Derive: the published key of a key, a label and a number. Conditions: 32 bytes, a label of at most 700000 bytes. -/
import Derived.Test.YtpjidfcbckndfaaDoorRefDeriveA
import Derived.Test.YtpjidfcbckndfaaDoorForm
import Derived.Test.YtpjidfcbckndfaaDoorWr
import Derived.Great.Ranges
namespace Go.Proofs.YtpjidfcbckndfaaDoor
open Go.RowKit

/-- The published key. -/
def derB (key label : List UInt8) (n : Nat) : List UInt8 := expB key (label ++ [0] ++ leB 8 n) 32
theorem ex_eq (x : List UInt8) : ∃ z, z = x := ⟨x, rfl⟩
theorem derB_length (key label : List UInt8) (n : Nat) : (derB key label n).length = 32 := expB_length _ _ _
set_option maxRecDepth 100000 in
set_option maxHeartbeats 400000 in
theorem refDerive_any (key : List UInt8) (label : ByteArray) (n : Nat) (w : World) (hk : key.length = 32) (hl : label.size ≤ 700000) (hn : (n : Int) ≤ 18446744073709551615) :
    Calls Tryd.prog 16 #[arrV key, .string label, .int .u64 (n : Int)] w fun e w' => e = .returned (arrV (derB key label.data.toList n)) ∧ Below w.heap.size w w' := by
  obtain ⟨i0, hi, hz0, hz1, hz2⟩ := info_parts info_u8
  have HI : Hid ((Tryd.prog.info? 25).map (·.size) = some 32) := by show _ = _; kernel_rfl
  have HKL := Lib.hid hk
  have HKM : Hid ((key.map bv).length = 32) := by show _ = _; rw [List.length_map, hk]
  have HNN := Lib.hid hn
  have lI : (label.size : Int) ≤ 700000 := by omega
  obtain ⟨L, hL⟩ : ∃ L, L = label.data.toList := ⟨_, rfl⟩
  have HLL : Hid (L.length = label.size) := by show _ = _; rw [hL]; exact Array.length_toList
  have HL := Lib.hid hL
  clear hk hn hl hL
  go_enter Tryd.func16, Tryd.ntmps16
  go_wp2_with (first
               | refine Go.Great.wpList_boxTo rfl _ _ rfl _ rfl w.heap.size rfl ((key.map bv).toArray) rfl ?_
               | refine wpList_string_bytes _ rfl _ _ _ 5 rfl Tryd.underlying9 Tryd.underlying22 Tryd.underlying5 label rfl (w.heap.size + 1 + 1) (by simp) (by unfold maxLen; omega) ?_
                 intro v1 w1 r1 b1
                 rw [← HL.out] at r1
                 have S1 : w.heap.size + 1 + 1 ≤ w1.heap.size := by simpa using b1.size
                 have BK1 : Hid (Blk w1 w.heap.size 25 (key.map bv)) := Lib.hid (((Blk.made w 25 (key.map bv)).alloc _).below b1 (by omega))
                 have BO1 : Hid (Blk w1 (w.heap.size + 1) 25 (List.replicate 32 (Value.int .u8 0))) := Lib.hid ((by simpa using Blk.made (w.alloc (.cells (key.map bv).toArray 25)) 25 (List.replicate 32 (Value.int .u8 0)) : Blk ((w.alloc (.cells (key.map bv).toArray 25)).alloc (.cells (List.replicate 32 (Value.int .u8 0)).toArray 25)) (w.heap.size + 1) 25 (List.replicate 32 (Value.int .u8 0))).below b1 (by omega))
                 have D1 : Hid (Below w.heap.size w w1) := Lib.hid ((((Below.refl _ _).alloc (Nat.le_refl _) _).alloc (by simp) _).trans (b1.mono (by omega)))
                 have R1 : Hid (Wr (w1.alloc (.cells #[Value.int .u8 0] 5)) (w.heap.size + 1 + 1) v1 L) := Lib.hid (r1.below ((Below.refl _ _).alloc (Nat.le_refl _) _))
                 clear r1 b1
               | at_builtin
                 refine wpList_append_wr _ rfl (.tmp 12) (.tmp 13) _ rfl (w.heap.size + 1 + 1) 5 i0 _ Tryd.underlying22 hi hz0 hz1 hz2 rfl v1 L rfl R1.out _ [0] rfl (rd_one (z := 0) rfl) (by simp) ?_ ?_ ?_
                 · have := HLL.out; simp; omega
                 · simp; omega
                 intro v2 w2 r2 g2
                 have b2 : Below (w.heap.size + 1 + 1) w1 w2 := ((Below.refl _ w1).alloc S1 _).grown g2 (by simp; omega) R1.out.ge
                 have S2 : w.heap.size + 1 + 1 ≤ w2.heap.size := Nat.le_trans S1 b2.size
                 have BK2 := Lib.hid (BK1.out.below b2 (by omega))
                 have BO2 := Lib.hid (BO1.out.below b2 (by omega))
                 have D2 : Hid (Below w.heap.size w w2) := Lib.hid (D1.out.trans (b2.mono (by omega)))
                 have rk := BK2.out.rd 32 32 (by have := HKL.out; omega) (by omega) (by unfold maxLen; omega)
                 rw [List.take_of_length_le (by have := HKL.out; omega)] at rk
                 have RK := Lib.hid (rk.alloc (.cells #[] 5))
                 have R2 := Lib.hid r2
                 clear r2 g2 b2 BK1 BO1 R1 rk
               | at_builtin
                 refine wpList_append_rd _ rfl (.tmp 15) (.tmp 16) _ rfl w2.heap.size 5 i0 _ Tryd.underlying22 hi hz0 hz1 hz2 rfl (.slice (some ⟨w2.heap.size, 0, none⟩) 0 0) 0 [] rfl (World.ownsRow_lit w2 #[] 0 (Nat.le_refl _) (by simp) rfl) _ key rfl RK.out ?_ ?_ ?_
                 · have := HKL.out; omega
                 · simp
                 intro v3 w3 own3 g3
                 have b3 : Below w2.heap.size w2 w3 := ((Below.refl _ _).alloc (Nat.le_refl _) _).grown g3 (by simp) (by simp [Value.ownBlock])
                 have OW3 : Hid (w3.ownsRow w2.heap.size 5 1 v3 key.length (key.map bv)) := Lib.hid (by simpa using own3)
                 have B3 := Lib.hid b3
                 clear own3 g3 b3 RK)
  refine (form_any n 8 _ HNN.out (by omega)).mono ?_
  rintro e w4 ⟨v4, rfl, own4, hb4⟩
  have S3 : w2.heap.size ≤ w3.heap.size := B3.out.size
  have S4 : w3.heap.size ≤ w4.heap.size := hb4.size
  have R24 : Hid (Wr w4 (w.heap.size + 1 + 1) v2 (L ++ [0])) := Lib.hid ((R2.out.below B3.out).below hb4)
  have RF := Lib.hid (Rd.of_own own4)
  have OW4 := Lib.hid (own_lain OW3.out hb4)
  have AP : Hid (Apart2 v3 v2) := Lib.hid (fun k h1 h2 => by
    have q1 := own_ge OW3.out k h1
    have q2 := R2.out.lt k h2
    omega)
  have D4 : Hid (Below w.heap.size w w4) := Lib.hid ((D2.out.trans (B3.out.mono D2.out.size)).trans (hb4.mono (by have := D2.out.size; omega)))
  have B4 := Lib.hid (B3.out.trans (hb4.mono S3))
  have BK4 := Lib.hid (BK2.out.below B4.out (by omega))
  have BO4 := Lib.hid (BO2.out.below B4.out (by omega))
  clear own4 hb4 BK2 BO2 OW3
  go_wp2_with (at_builtin
               refine wpList_append_wr _ rfl (.tmp 18) (.tmp 20) _ rfl (w.heap.size + 1 + 1) 5 i0 _ Tryd.underlying22 hi hz0 hz1 hz2 rfl v2 (L ++ [0]) rfl R24.out v4 (leB 8 n) rfl RF.out (by rw [leB_length]; omega) ?_ ?_ ?_
               · have := HLL.out; simp [leB_length]; omega
               · omega
               intro v5 w5 r5 g5)
  have OW5 := Lib.hid (AP.out.kept OW4.out g5)
  have b5 : Below (w.heap.size + 1 + 1) w4 w5 := (Below.refl _ w4).grown g5 (by omega) R24.out.ge
  have BO5 := Lib.hid (BO4.out.below b5 (by omega))
  have D5 : Hid (Below w.heap.size w w5) := Lib.hid (D4.out.trans (b5.mono (by omega)))
  have R5 := Lib.hid r5.rd
  clear r5 g5 OW4 BK4 BO4
  obtain ⟨bs, hbs⟩ := ex_eq (derB key L n)
  have HX : Calls Tryd.prog 14 #[v3, v5, .int .i64 32] w5 (Fresh w5 bs) := by
    rw [hbs, derB]
    exact refExpand_any v3 v5 key (L ++ [0] ++ leB 8 n) 32 _ (Rd.of_own OW5.out) R5.out (by have := HKL.out; omega) (by have := HLL.out; simp [leB_length]; omega) (by omega)
  have HBS := Lib.hid hbs
  clear hbs
  refine HX.mono ?_
  rintro e w6 ⟨v6, rfl, r6, hb6⟩
  have HLB : Hid (bs.length = 32) := by show _ = _; rw [HBS.out, derB_length]
  have HRES : Hid (derB key label.data.toList n = bs) := by show _ = _; rw [HBS.out, HL.out]
  obtain ⟨A, c, rfl, q1, q2, q3⟩ := r6.form
  obtain ⟨b, off, rfl, q4, q5⟩ := q3 (by rw [HLB.out]; omega)
  rw [HLB.out]
  have HH : Hid (∀ i (h : i < bs.length), (w6.alloc (.cells (List.replicate 32 (Value.int .u8 0)).toArray 25)).cell? ⟨b, off + i, none⟩ = some (bv bs[i])) := Lib.hid (fun i h => by
    rw [World.cell?_alloc_lt w6 _ ⟨b, off + i, none⟩ q4]
    exact q5 i h)
  have H0 : Hid (Blk (w6.alloc (.cells (List.replicate 32 (Value.int .u8 0)).toArray 25)) w6.heap.size 25 (outC bs 0)) := Lib.hid (by simpa [outC] using Blk.made w6 25 (List.replicate 32 (Value.int .u8 0)))
  have S5 : w.heap.size + 1 + 1 ≤ w5.heap.size := by have := b5.size; omega
  have BO6 := Lib.hid (BO5.out.below hb6 (by omega))
  have D6 : Hid (Below w.heap.size w w6) := Lib.hid (D5.out.trans (hb6.mono (by omega)))
  have S6 : w5.heap.size ≤ w6.heap.size := hb6.size
  clear HX HBS r6 q1 q2 q3 q5 hb6 b5 R5 OW5
  go_wp2_with (fail)
  refine drvs_loop _ _ _ _ _ _ _ _ _ _ _ _ _ _ _ _ _ _ _ _ _ _ _ _ _ _ _ _ _ _ _ bs HLB.out _ w6.heap.size b off c HH q4 H0 (Lib.hid ?_)
  intro u10 u23 u24 u25 u26 u27 u28 u29 u30 u31 u32 w7 hb7 hl7
  have eC : outC bs 32 = bs.map bv := by unfold outC; rw [List.take_of_length_le (by rw [HLB.out]; omega)]; simp
  have hb := hb7.out
  rw [eC] at hb
  have HB8 := Lib.hid hb
  have HR9 := Lib.hid ((BO6.out.alloc _).below hl7.out (by omega))
  have HLN : Hid ((bs.map bv).length = 32) := by show _ = _; rw [List.length_map, HLB.out]
  have D7 : Hid (Below w.heap.size w w7) := Lib.hid ((D6.out.alloc D6.out.size _).trans (hl7.out.mono (by omega)))
  clear hb eC hb7 hl7 BO6
  go_wp2_with (first
    | (refine wpList_load_blk rfl 25 _ rfl w6.heap.size rfl 25 _ _ HB8.out Tryd.underlying25 rfl (by rw [HLN.out]; exact HI.out) ?_)
    | (refine wpList_store_blk rfl 25 _ _ rfl (w.heap.size + 1) 25 _ HR9.out (bs.map bv) rfl rfl (by rw [HLN.out]; rfl) (by rw [HLN.out]; exact HI.out) (bv_one _) ?_; intro w9 hb9 hs9))
  refine bodyPost_ret (v := arrV bs) ?_ rfl ⟨by rw [HRES.out], ?_⟩
  · exact results_blk (ty := 25) Tryd.results16 _ w9 (w.heap.size + 1) 25 (bs.map bv) _ rfl hb9 Tryd.underlying25 rfl (by rw [HLN.out]; exact HI.out)
  · exact D7.out.trans (hs9.below.mono (by omega))
end Go.Proofs.YtpjidfcbckndfaaDoor
