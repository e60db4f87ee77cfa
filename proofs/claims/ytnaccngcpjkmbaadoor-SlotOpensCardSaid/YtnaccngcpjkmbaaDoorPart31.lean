/- Part 31 of the words that the laws share: OfA, Short. No condition of its own: each theorem says its own. -/
import Derived.Test.YtnaccngcpjkmbaaDoorPart30
import Derived.Test.YtnaccngcpjkmbaaDoorPart2
import Derived.Test.YtnaccngcpjkmbaaDoorPart14
import Derived.Test.YtnaccngcpjkmbaaDoorPart4

/- sha.Of: the loop that takes one part. Conditions: at most 1000000 bytes in all; the table of the rounds as it is laid. -/
namespace Go.Proofs.YtnaccngcpjkmbaaDoor
open Go.RowKit

/-- The state of the fingerprint that is being made: its words in a block, its bytes in the next one. -/
structure Taken (w0 : World) (S : Nat) (ys : List UInt8) (s : St) (cs : List UInt8) (f : Nat) (W : World) : Prop where
  flow : Flow ys s cs f
  ok : s.ok
  words : Blk W S 102 (s.list.map wv)
  block : Blk W (S + 1) 104 (cs.map bv)
  below : Below S w0 W
def TakeRel (w0 : World) (S : Nat) (all : List UInt8) (f p : Value) (W : World) : Prop :=
  ∃ (ys zs : List UInt8) (s : St) (cs : List UInt8) (n : Nat) (A : Option Addr) (c : Nat), all = ys ++ zs ∧ f = .int .i64 (n : Int) ∧ p = .slice A zs.length c ∧ Rd w0 p zs ∧ Taken w0 S ys s cs n W
def left_ : Value → Nat
  | .slice _ n _ => n
  | _ => 0
noncomputable def body_take : Code := (((Tryd.f45.body.map loopsOf).getD [])[1]?).getD .skip
set_option maxRecDepth 100000 in
set_option maxHeartbeats 1000000 in
theorem take_loop (c0 c1 c2 c6 c7 c9 c10 c11 c12 c13 c14 c15 c16 c17 c18 c19 c20 c21 c22 c23 c24 c25 c26 c27 c28 c29 c30 c31 c32 c33 c34 c35 c36 c37 c38 c39 c40 c41 c42 : Value) (w0 w : World) (S : Nat) (hS : Hid (S = w0.heap.size)) (hk : Hid (Salts w0)) (all : List UInt8) (v5 v8 : Value) (h0 : Hid (TakeRel w0 S all v5 v8 w)) {Q : Exit → Act → World → Prop}
    (HQ : Hid (∀ (u8 u9 u22 u23 u24 u25 u26 u27 u28 u29 u30 u31 u32 u33 u34 u35 : Value) (s : St) (cs : List UInt8) (n : Nat) (wx : World), Hid (Taken w0 S all s cs n wx) → Q (.exit 1) ⟨List.toArray (c0 :: c1 :: c2 :: (.pointer (some ⟨S, 0, none⟩)) :: (.pointer (some ⟨S + 1, 0, none⟩)) :: (.int .i64 (n : Int)) :: c6 :: c7 :: u8 :: u9 :: c10 :: c11 :: c12 :: c13 :: c14 :: c15 :: c16 :: c17 :: c18 :: c19 :: c20 :: c21 :: u22 :: u23 :: u24 :: u25 :: u26 :: u27 :: u28 :: u29 :: u30 :: u31 :: u32 :: u33 :: u34 :: u35 :: c36 :: c37 :: c38 :: c39 :: c40 :: c41 :: c42 :: []), []⟩ wx)) :
    (Code.loop body_take).wp Tryd.prog Q ⟨List.toArray (c0 :: c1 :: c2 :: (.pointer (some ⟨S, 0, none⟩)) :: (.pointer (some ⟨S + 1, 0, none⟩)) :: v5 :: c6 :: c7 :: v8 :: c9 :: c10 :: c11 :: c12 :: c13 :: c14 :: c15 :: c16 :: c17 :: c18 :: c19 :: c20 :: c21 :: c22 :: c23 :: c24 :: c25 :: c26 :: c27 :: c28 :: c29 :: c30 :: c31 :: c32 :: c33 :: c34 :: c35 :: c36 :: c37 :: c38 :: c39 :: c40 :: c41 :: c42 :: []), []⟩ w := by
  obtain ⟨i0, hi, hz0, hz1, hz2⟩ := info_parts info_u8
  unfold body_take
  conv => arg 2; arg 1; whnf
  go_loopw [5, 8] (fun f p wx => TakeRel w0 S all f p wx) (fun _ p _ => left_ p)
  case atStart => exact h0.out
  case round =>
    obtain ⟨ys, zs, s, cs, f, A, c, hall, rfl, rfl, hrd, ht⟩ := hrel
    have hf := ht.flow.lt
    have fI : (f : Int) < 64 := by omega
    have HALL := Lib.hid hall
    have HRD := Lib.hid hrd
    have HT := Lib.hid ht
    obtain ⟨o1, m1, hm1, ho1, hsl⟩ := run_slice_arr_l' (P := Tryd.prog) 104 64 5 i0 Tryd.underlying104 hi hz1 (S + 1) f (f : Int) rfl (by omega)
    obtain ⟨n, hn⟩ : ∃ n, n = min zs.length (64 - f) := ⟨_, rfl⟩
    obtain ⟨A2, c2, hsl2, hrd2⟩ := hrd.low (P := Tryd.prog) 23 5 i0 Tryd.underlying23 hi hz1 n (by omega)
    have HM1 := Lib.hid hm1
    have HO1 := Lib.hid ho1
    have HSL := Lib.hid hsl2
    have HN := Lib.hid hn
    have nI : (n : Int) ≤ 64 := by omega
    clear hall hrd ht hm1 ho1 hsl2 hn
    have HZ : Hid ((Tryd.prog.info? 5).map (·.size) = some 1) := by show _ = _; kernel_rfl
    have HLZ : Hid (((zs.take n).map bv).length = n) := by show ((zs.take n).map bv).length = n; rw [List.length_map, List.length_take]; have := HN.out; omega
    go_wp2_with (refine wpList_copy_splice rfl _ _ _ _ rfl 5 Tryd.underlying23 HZ.out (some ⟨S + 1, o1, none⟩) A m1 m1 zs.length c rfl rfl (S + 1) f (cs.map bv) 104 HT.out.block ((zs.take n).map bv) ?_ ?_ ?_ (bv_one _) (S + 1) wr (Below.refl _ _) (Nat.le_refl _) ?_)
    · rw [HLZ.out, HM1.out, HN.out]
    · intro h0
      rw [HLZ.out] at h0
      refine ⟨by rw [HO1.out (by have := HM1.out; have := HN.out; omega)], ?_⟩
      obtain ⟨ad, hA, hab, hsrc⟩ := HRD.out.src (by have := HN.out; omega)
      refine ⟨ad, hA, fun j v hv => ?_⟩
      rw [List.getElem?_map, Option.map_eq_some_iff] at hv
      obtain ⟨u, hu, rfl⟩ := hv
      have hj : j < (zs.take n).length := by
        rcases Nat.lt_or_ge j (zs.take n).length with h | h
        · exact h
        · rw [List.getElem?_eq_none h] at hu; cases hu
      rw [List.length_take] at hj
      rw [List.getElem?_take, if_pos (by omega)] at hu
      rw [HT.out.below.cell (p := ad.add j) (by rw [hS.out]; exact hab j)]
      exact hsrc j u hu
    · rw [HLZ.out, List.length_map, HT.out.flow.len]; have := HN.out; omega
    intro w1 hb1 hl1
    rw [show min n zs.length = n by have := HN.out; omega]
    have hb1' : Blk w1 (S + 1) 104 ((splice cs f (zs.take n)).map bv) := by rw [← map_splice]; have h := hb1.out; rw [← List.map_take] at h; exact h
    have HB1 := Lib.hid hb1'
    have HW1 := Lib.hid (HT.out.words.below hl1 (Nat.lt_succ_self _))
    have HL1 : Hid (Below S w0 w1) := Lib.hid (HT.out.below.trans (hl1.mono (Nat.le_succ _)))
    have HK1 := Lib.hid (hk.out.under HL1.out (by rw [hS.out]; exact hk.out.1))
    have HX := HSL.out
    have HRD2 := Lib.hid hrd2
    clear hb1' hb1 hl1 hsl hrd2
    have f0 : (0 : Int) ≤ (f : Int) + (n : Int) := by omega
    by_cases hc : zs.length < 64 - f
    · obtain rfl : n = zs.length := by have := HN.out; omega
      have hlt : (f : Int) + (zs.length : Int) < 64 := by omega
      have hlt2 : f + zs.length < 64 := by omega
      go_wp2_with (fail)
      go_quiet (fail)
      go_wp2_with (fail)
      rw [show (f : Int) + (zs.length : Int) = ((f + zs.length : Nat) : Int) by omega]
      refine HQ.out _ _ _ _ _ _ _ _ _ _ _ _ _ _ _ _ s (splice cs f (zs.take zs.length)) (f + zs.length) _ (Lib.hid ⟨?_, HT.out.ok, HW1.out.drewN _, HB1.out.drewN _, below_drewN HL1.out _⟩)
      rw [HALL.out, List.take_length]
      exact HT.out.flow.more zs hlt2
    · have hn2 : Hid (n = 64 - f) := by show n = 64 - f; have := HN.out; omega
      have hn3 : Hid (f + (zs.take n).length = 64) := by show f + (zs.take n).length = 64; rw [List.length_take]; have := HN.out; omega
      have hzl : Hid ((zs.drop n).length = zs.length - n) := List.length_drop
      have hlt : Hid ((f : Int) + (n : Int) = 64) := by show (f : Int) + (n : Int) = 64; have := hn2.out; omega
      have hge : (64 : Int) ≤ (f : Int) + (n : Int) := by have := hlt.out; omega
      have HI8 : Hid ((Tryd.prog.info? 102).map (·.size) = some 8) := by show _ = _; kernel_rfl
      go_wp2_with (fail)
      go_quiet (fail)
      go_wp2_with (refine wpList_load_blk rfl 102 _ rfl S rfl 102 (s.list.map wv) _ HW1.out Tryd.underlying102 rfl HI8.out ?_)
      have FL := HT.out.flow.full (zs.take n) hn3.out
      refine (through_any s (S + 1) (splice cs f (zs.take n)) _ HT.out.ok (HB1.out.drewN _) FL.len (HK1.out.drewN _)).mono ?_
      rintro e w2 ⟨rfl, hb2⟩
      have HFL := Lib.hid FL
      have HW2 := Lib.hid ((HW1.out.drewN nq).below hb2 HW1.out.lt)
      have HB2 := Lib.hid ((HB1.out.drewN nq).below hb2 HB1.out.lt)
      have HL2 : Hid (Below S w0 w2) := Lib.hid ((below_drewN HL1.out nq).trans (hb2.mono (Nat.le_of_lt HW1.out.lt)))
      clear FL hb2
      go_wp2_with (refine wpList_store_blk rfl 102 _ _ rfl S 102 _ HW2.out (St.list (goOn s (splice cs f (zs.take n))) |>.map wv) rfl rfl (list_len _ _) HI8.out (wv_one _) ?_; intro w3 hb3 hs3)
      go_roundw
      case rel =>
        refine ⟨ys ++ zs.take n, zs.drop n, _, _, 0, A2, c2, ?_, rfl, ?_, ?_, HFL.out, goOn_ok _ _, hb3, hs3.blk HB2.out (by omega), HL2.out.trans hs3.below⟩
        · rw [HALL.out, List.append_assoc, List.take_append_drop]
        · rw [hzl.out]
        · exact HRD2.out
      case measure =>
        simp only [left_]
        have := hn2.out
        omega
end Go.Proofs.YtnaccngcpjkmbaaDoor

/- The contract of sha.Short: the number whose form a fingerprint's first eight bytes are. Condition: 32 bytes. -/
namespace Go.Proofs.YtnaccngcpjkmbaaDoor
open Go.RowKit

set_option maxRecDepth 100000 in
set_option maxHeartbeats 400000 in
theorem short_any (xs : List UInt8) (w : World) (hl : xs.length = 32) :
    Calls Tryd.prog 44 #[arrV xs] w fun e w' => e = .returned (.int .u64 (numB (xs.take 8) : Nat)) ∧ Below w.heap.size w w' := by
  have HB := Lib.hid (Blk.made w 66 (xs.map bv))
  have HR := Lib.hid (HB.out.rd 8 32 (by omega) (by omega) (by unfold maxLen; omega))
  have HL := Lib.hid hl
  clear hl
  unfold arrV
  go_enter Tryd.func44, Tryd.ntmps44
  go_wp2_with (fail)
  refine (get_yes _ (xs.take 8) 8 _ HR.out (by omega) (by omega) (by rw [List.length_take, HL.out]; omega)).mono ?_
  rintro e w1 ⟨rfl, rfl⟩
  rw [List.take_take]
  go_wp2_with (fail)
  go_ret
  exact ⟨rfl, (Below.refl _ _).alloc (Nat.le_refl _) _⟩
end Go.Proofs.YtnaccngcpjkmbaaDoor
