/- The contract of the developers' NonceOf. No condition of its own. -/
import Derived.Test.YtmdpoceadjdhmaaNonC
import Derived.Test.YtmdpoceadjdhmaaToPtr
import Derived.Test.YtmdpoceadjdhmaaPut
import Derived.Deep.Cut
namespace Go.Proofs.Ytmdpoceadjdhmaa
open Go.RowKit

theorem putN_any (v : Value) (xs : List UInt8) (N : Int) (n k : Nat) (w : World) (hN : N = (n : Int)) (h : Rd w v xs) (hl : xs.length ≤ 1000000000000) (hn : (n : Int) ≤ 18446744073709551615) (h1 : 1 ≤ k) (h8 : k ≤ 8) :
    Calls Try.prog 20 #[v, .int .u64 N, .int .i64 (k : Int)] w (Own w 5 (xs ++ leB k n)) := hN ▸ put_yes v xs n k w h hl hn h1 h8
set_option maxRecDepth 100000 in
set_option maxHeartbeats 2000000 in
theorem noncec : NonceC := by
  intro node count w hn hc
  have HI : Hid ((Try.prog.info? 35).map (·.size) = some 12) := by show _ = _; kernel_rfl
  have R0 : Hid (Blk (w.alloc (.cells (List.replicate 12 (Value.int .u8 0)).toArray 35)) w.heap.size 35 (List.replicate 12 (Value.int .u8 0))) := Lib.hid (Blk.made w _ _)
  have D0 : Hid (Below w.heap.size w (w.alloc (.cells (List.replicate 12 (Value.int .u8 0)).toArray 35))) := Lib.hid ((Below.refl _ _).alloc (Nat.le_refl _) _)
  have HB : Hid (node < 65536 ∧ count < 18446744073709551616) := Lib.hid ⟨hn, hc⟩
  have nI : (node : Int) ≤ 65535 := by omega
  have cI : (count : Int) ≤ 18446744073709551615 := by omega
  by_cases hs : 4611686018427387904 < count
  · have hsI : (4611686018427387904 : Int) < count := by omega
    rw [if_pos hs, if_pos hs]
    clear hn hc hs
    go_enter Try.func18, Try.ntmps18
    go_wp2_with (refine wpList_store_blk rfl 35 _ _ rfl w.heap.size 35 _ R0.out (List.replicate 12 (Value.int .u8 0)) rfl rfl rfl HI.out (by intro u hu; rw [List.eq_of_mem_replicate hu]; rfl) ?_; intro w9 hb9 hs9)
    refine bodyPost_ret (v := .tuple #[arrV (List.replicate 12 0), .int .i64 12]) ?_ rfl ⟨rfl, D0.out.trans (hs9.below.mono (Nat.le_refl _))⟩
    exact results_blk_tmp (ty := 35) Try.results18 _ w9 w.heap.size 35 (List.replicate 12 (Value.int .u8 0)) _ _ rfl rfl hb9 Try.underlying35 rfl HI.out
  · have hsI : (count : Int) ≤ 4611686018427387904 := by omega
    rw [if_neg hs, if_neg hs]
    clear hn hc hs
    go_enter Try.func18, Try.ntmps18
    go_wp2_with (fail)
    refine (putN_any _ [] _ count 8 _ rfl (Rd.nil _) (by simp) (by have := HB.out; omega) (by omega) (by omega)).mono ?_
    rintro e w1 ⟨v1, rfl, own1, hb1⟩
    have D1 : Hid (Below w.heap.size w w1) := Lib.hid (D0.out.trans (hb1.mono D0.out.size))
    have R1 := Lib.hid (R0.out.below hb1 (by simp))
    have V1 := Lib.hid (Rd.of_own own1)
    clear own1 hb1
    go_wp2_with (fail)
    refine (putN_any _ _ _ node 2 _ rfl V1.out (by simp [leB_length]) (by have := HB.out; omega) (by omega) (by omega)).mono ?_
    rintro e w2 ⟨v2, rfl, own2, hb2⟩
    have D2 : Hid (Below w.heap.size w w2) := Lib.hid (D1.out.trans (hb2.mono D1.out.size))
    have R2 := Lib.hid (R1.out.below hb2 R1.out.lt)
    have O2 := Lib.hid own2
    clear own2 hb2 R1 D1 V1
    go_wp2_with (fail)
    refine (putN_any _ _ _ 0 2 _ rfl (Rd.of_own O2.out) (by simp [leB_length]) (by omega) (by omega) (by omega)).mono ?_
    rintro e w3 ⟨v3, rfl, own3, hb3⟩
    obtain ⟨bs, hbs⟩ : ∃ bs, bs = nonceB node count := ⟨_, rfl⟩
    have HBL : Hid (bs.length = 12) := Lib.hid (by rw [hbs, nonceB_length])
    have HBS := Lib.hid hbs
    have own4 : w3.ownsRow w2.heap.size 5 1 v3 12 (bs.map bv) := by
      have e0 : leB 2 0 = [0, 0] := by decide
      rw [e0] at own3
      rw [hbs, nonceB]
      simpa [leB_length] using own3
    obtain ⟨g, c, rfl, hg1, hg2⟩ := own_form own4 (by omega)
    have hbc : Rd w3 (.slice (some ⟨g, 0, none⟩) 12 c) bs := Rd.of_own own4
    obtain ⟨_, _, he, _, _, hq⟩ := hbc.form
    obtain ⟨b', off', e', q4, q5⟩ := hq (by rw [HBL.out]; omega)
    have HCELL : Hid (∀ i (h : i < bs.length), w3.cell? ⟨g, 0 + i, none⟩ = some (bv bs[i])) := Lib.hid (by
      simp only [Value.slice.injEq] at he
      obtain ⟨h1, _, _⟩ := he
      rw [e'] at h1
      simp only [Option.some.injEq, Addr.mk.injEq] at h1
      obtain ⟨rfl, rfl, _⟩ := h1
      exact q5)
    have HRG : Hid (w3.rangeAt g 0 (bs.map bv)) := Lib.hid (fun j v hv => by
      have hj : j < bs.length := by
        rcases Nat.lt_or_ge j bs.length with h | h
        · exact h
        · rw [List.getElem?_eq_none (by simpa using h)] at hv; cases hv
      rw [HCELL.out j hj]
      rw [List.getElem?_map, List.getElem?_eq_getElem hj] at hv
      exact hv)
    have HBM : Hid ((Try.prog.info? 35).map (·.size) = some (bs.map bv).length) := Lib.hid (by rw [List.length_map, HBL.out]; exact HI.out)
    have HLD : ∀ (ops : Array Oper) (rest : List Oper) (o : Oper) (a : Act) (Q : Exit → Act → World → Prop), o.guard = none → o.op = .load 35 (.tmp 18) → a.eval (.tmp 18) = .pointer (some ⟨g, 0, none⟩) → wpList Try.prog ops Q rest (a.put o.dst (.agg (bs.map bv).toArray)) w3 → wpList Try.prog ops Q (o :: rest) a w3 :=
      fun ops rest o a Q hgd ho hx h => wpList_load_mid hgd 35 (.tmp 18) ho g 0 hx (bs.map bv) _ HRG.out Try.underlying35 rfl HBM.out h
    have R3 := Lib.hid (R2.out.below hb3 R2.out.lt)
    have D3 : Hid (Below w.heap.size w w3) := Lib.hid (D2.out.trans (hb3.mono D2.out.size))
    clear own3 own4 hbs hbc he hq q4 q5 e' R2 D2 O2 hb3
    go_wp2_with (first
      | refine wpList_to_arr rfl 35 _ rfl g 0 12 12 c _ rfl Try.underlying35 (Nat.le_refl _) ?_
      | refine HLD _ _ _ _ _ rfl rfl rfl ?_
      | (refine wpList_store_blk rfl 35 _ _ rfl w.heap.size 35 _ R3.out (bs.map bv) rfl rfl (by rw [List.length_map, HBL.out]; rfl) HBM.out (bv_one _) ?_
         intro w9 hb9 hs9))
    refine bodyPost_ret (v := .tuple #[arrV bs, .int .i64 0]) ?_ rfl ⟨by rw [HBS.out], D3.out.trans (hs9.below.mono (Nat.le_refl _))⟩
    exact results_blk_tmp (ty := 35) Try.results18 _ w9 w.heap.size 35 (bs.map bv) _ _ rfl rfl hb9 Try.underlying35 rfl HBM.out
end Go.Proofs.Ytmdpoceadjdhmaa
