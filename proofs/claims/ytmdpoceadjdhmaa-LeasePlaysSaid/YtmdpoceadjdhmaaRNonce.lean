/- The contract of the sixth reference's Nonce. Conditions: a node's number of 16 bits, a count of 64. -/
import Derived.Test.YtmdpoceadjdhmaaNonL
import Derived.Test.YtmdpoceadjdhmaaForm
import Derived.Deep.Cut
namespace Go.Proofs.Ytmdpoceadjdhmaa
open Go.RowKit

theorem formN_any (N : Int) (n k : Nat) (w : World) (hN : N = (n : Int)) (hn : (n : Int) ≤ 18446744073709551615) (h8 : k ≤ 8) :
    Calls Try.prog 21 #[.int .u64 N, .int .i64 (k : Int)] w (Own w 5 (leB k n)) := hN ▸ form_any n k w hn h8
set_option maxRecDepth 100000 in
set_option maxHeartbeats 2000000 in
theorem refNonce_any (node count : Nat) (w : World) (hn : (node : Int) ≤ 65535) (hc : (count : Int) ≤ 18446744073709551615) :
    Calls Try.prog 19 #[.int .u16 (node : Int), .int .u64 (count : Int)] w fun e w' => e = .returned (arrV (nonceB node count)) ∧ Below w.heap.size w w' := by
  obtain ⟨i0, hi, hz0, hz1, hz2⟩ := info_parts info_u8
  have HI : Hid ((Try.prog.info? 34).map (·.size) = some 12) := by show _ = _; kernel_rfl
  obtain ⟨W0, hW0⟩ : ∃ W : World, W = (w.alloc (.cells #[Value.int .u8 0, Value.int .u8 0, Value.int .u8 0, Value.int .u8 0, Value.int .u8 0, Value.int .u8 0, Value.int .u8 0, Value.int .u8 0, Value.int .u8 0, Value.int .u8 0, Value.int .u8 0, Value.int .u8 0] 34)).alloc (.cells #[Value.int .u8 0, Value.int .u8 0, Value.int .u8 0, Value.int .u8 0, Value.int .u8 0, Value.int .u8 0, Value.int .u8 0, Value.int .u8 0, Value.int .u8 0, Value.int .u8 0, Value.int .u8 0, Value.int .u8 0] 34) := ⟨_, rfl⟩
  have S0 : Hid (W0.heap.size = w.heap.size + 1 + 1) := Lib.hid (by rw [hW0]; simp)
  have D0 : Hid (Below w.heap.size w W0) := Lib.hid (by rw [hW0]; exact (((Below.refl _ _).alloc (Nat.le_refl _) _).alloc (by simp) _))
  have R0 : Hid (Blk W0 w.heap.size 34 (List.replicate 12 (Value.int .u8 0))) := Lib.hid (by rw [hW0]; exact (Blk.made w _ _).alloc _)
  have O0 : Hid (Blk W0 (w.heap.size + 1) 34 (List.replicate 12 (Value.int .u8 0))) := Lib.hid (by
    have h := Blk.made (w.alloc (.cells (List.replicate 12 (Value.int .u8 0)).toArray 34)) 34 (List.replicate 12 (Value.int .u8 0))
    rw [World.size_alloc] at h
    rw [hW0]
    exact h)
  go_enter Try.func19, Try.ntmps19
  go_upto_region 2 with (fail)
  rw [← hW0]
  clear hW0
  go_wp2_with (fail)
  refine (formN_any _ count 8 W0 rfl hc (by omega)).mono ?_
  rintro e w1 ⟨v1, rfl, own1, hb1⟩
  have O1 := Lib.hid own1
  have SS := S0.out
  have RR1 := Lib.hid (R0.out.below hb1 (by omega))
  have OO1 := Lib.hid (O0.out.below hb1 (by omega))
  have D1 : Hid (Below w.heap.size w w1) := Lib.hid (D0.out.trans (hb1.mono (by omega)))
  have B1 := Lib.hid hb1
  clear own1 hb1
  go_wp2_with (fail)
  refine (formN_any _ node 2 w1 rfl (by omega) (by omega)).mono ?_
  rintro e w2 ⟨v2, rfl, own2, hb2⟩
  have O2 := Lib.hid (own_lain O1.out hb2)
  have R2 := Lib.hid (Rd.of_own own2)
  have B2 : Hid (Below W0.heap.size W0 w2) := Lib.hid (B1.out.trans (hb2.mono B1.out.size))
  clear own2 hb2 O1 B1
  go_wp2_with (
    at_builtin
    refine wpList_append_rd _ rfl _ _ _ rfl W0.heap.size 5 i0 _ Try.underlying49 hi hz0 hz1 hz2 rfl _ _ _ rfl O2.out _ (leB 2 node) rfl R2.out ?_ ?_ ?_
    · rw [leB_length, leB_length]; omega
    · exact B2.out.size
    intro v3 w3 own3 g3
    rw [← List.map_append] at own3
    obtain ⟨bs, hbs⟩ : ∃ bs, bs = leB 8 count ++ leB 2 node := ⟨_, rfl⟩
    have HBL : Hid (bs.length = 10) := Lib.hid (by rw [hbs, List.length_append, leB_length, leB_length])
    have HBS := Lib.hid hbs
    rw [← hbs, leB_length, leB_length] at own3
    obtain ⟨g, c, rfl, hg1, hg2⟩ := own_form own3 (by omega)
    have hge := own_ge own3 g rfl
    have hbc : Rd w3 (.slice (some ⟨g, 0, none⟩) 10 c) bs := Rd.of_own own3
    obtain ⟨_, _, he, _, _, hq⟩ := hbc.form
    obtain ⟨b', off', e', q4, q5⟩ := hq (by rw [HBL.out]; omega)
    have HCELL : Hid (∀ i (h : i < bs.length), w3.cell? ⟨g, 0 + i, none⟩ = some (bv bs[i])) := Lib.hid (by
      simp only [Value.slice.injEq] at he
      obtain ⟨h1, _, _⟩ := he
      rw [e'] at h1
      simp only [Option.some.injEq, Addr.mk.injEq] at h1
      obtain ⟨rfl, rfl, _⟩ := h1
      exact q5)
    have B3 : Hid (Below W0.heap.size W0 w3) := Lib.hid (B2.out.grown g3 B2.out.size (own_ge O2.out))
    have hne : g ≠ w.heap.size + 1 := by omega
    clear own3 g3 hbs hbc he hq q4 q5 e' O2 R2 B2)
  have RR3 := Lib.hid (R0.out.below B3.out (by omega))
  have OO3 : Hid (Blk w3 (w.heap.size + 1) 34 (putC 12 bs 0)) := Lib.hid (by simpa [putC] using O0.out.below B3.out (by omega))
  have D3 : Hid (Below w.heap.size w w3) := Lib.hid (D0.out.trans (B3.out.mono (by omega)))
  refine nn_loop _ _ _ _ _ _ _ _ _ _ _ _ _ _ _ _ _ _ _ _ _ _ bs HBL.out w3 (w.heap.size + 1) g 0 c HCELL hne OO3 (Lib.hid ?_)
  intro u7 u14 u15 u16 u17 u18 u19 u20 u21 u22 u23 w4 hb4 hl4
  have eC : putC 12 bs 10 = (nonceB node count).map bv := by
    unfold putC nonceB
    rw [← HBS.out, List.take_of_length_le (by rw [HBL.out]; omega)]
    simp [bv]
  have hb := hb4.out
  rw [eC] at hb
  obtain ⟨nb, hnb⟩ : ∃ nb, nb = nonceB node count := ⟨_, rfl⟩
  rw [← hnb] at hb
  have HNB := Lib.hid hnb
  have HB4 := Lib.hid hb
  have HR4 := Lib.hid (hl4.out.blk RR3.out (by omega))
  have HLN : Hid ((nb.map bv).length = 12) := Lib.hid (by rw [List.length_map, hnb, nonceB_length])
  have D4 : Hid (Below w.heap.size w w4) := Lib.hid (D3.out.trans (hl4.out.below.mono (by omega)))
  clear hb eC hb4 hl4 hnb RR3 OO3
  go_wp2_with (first
    | (refine wpList_load_blk rfl 34 _ rfl (w.heap.size + 1) rfl 34 _ _ HB4.out Try.underlying34 rfl (by rw [HLN.out]; exact HI.out) ?_)
    | (refine wpList_store_blk rfl 34 _ _ rfl w.heap.size 34 _ HR4.out (nb.map bv) rfl rfl (by rw [HLN.out]; rfl) (by rw [HLN.out]; exact HI.out) (bv_one _) ?_; intro w9 hb9 hs9))
  refine bodyPost_ret (v := arrV nb) ?_ rfl ⟨by rw [HNB.out], ?_⟩
  · exact results_blk (ty := 34) Try.results19 _ w9 w.heap.size 34 (nb.map bv) _ rfl hb9 Try.underlying34 rfl (by rw [HLN.out]; exact HI.out)
  · exact D4.out.trans (hs9.below.mono (by omega))
end Go.Proofs.Ytmdpoceadjdhmaa
