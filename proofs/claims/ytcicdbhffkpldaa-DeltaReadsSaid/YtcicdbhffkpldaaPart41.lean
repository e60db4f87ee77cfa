/- Part 41 of the words that the laws share: DtLay. No condition of its own: each theorem says its own. -/
import Derived.Test.YtcicdbhffkpldaaPart26
import Derived.Test.YtcicdbhffkpldaaPart40
import Derived.Test.YtcicdbhffkpldaaPart3
import Derived.Test.YtcicdbhffkpldaaPart6
import Derived.Test.YtcicdbhffkpldaaPart4

/- The developers' Lay. Conditions: a row of pieces, at most 100000, their series at most 100000 bytes. -/
namespace Go.Proofs.Ytcicdbhffkpldaa
open Go.RowKit

theorem lay_splice {n R : Nat} {a f : List UInt8} (ha : a.length = 2) (hf : f.length = n) (h : n + 2 ≤ R) : splice (splice (List.replicate R (0 : UInt8)) 0 (a.take 2)) 2 (f.take n) = a ++ (f ++ List.replicate (R - 2 - n) 0) := by
  have e1 : a.take 2 = a := List.take_of_length_le (by omega)
  have e2 : f.take n = f := List.take_of_length_le (by omega)
  rw [e1, e2]
  unfold splice
  have e3 : (List.replicate R (0 : UInt8)).take 0 ++ (a ++ (List.replicate R (0 : UInt8)).drop (0 + a.length)) = a ++ List.replicate (R - 2) 0 := by
    rw [List.take_zero, List.nil_append, List.drop_replicate, ha]
  rw [e3, List.take_append_of_le_length (by omega), List.take_of_length_le (by omega), hf, List.drop_append, List.drop_eq_nil_of_le (by omega), List.nil_append, List.drop_replicate, ha]
  congr 3
  omega
set_option maxRecDepth 100000 in
set_option maxHeartbeats 4000000 in
theorem lay_any (v : Value) (l : List Pc) (w : World) (h : RsP w v l) (hn : l.length ≤ 100000) (hs : ∀ p ∈ l, p.s.size ≤ 100000) :
    Calls Try.prog 8 #[v] w fun e w' => ∃ u, e = .returned (.tuple #[u, .int .i64 (checkD l : Int)]) ∧ Rd w' u (if checkD l = 0 then layD l else []) ∧ Below w.heap.size w w' := by
  obtain ⟨i0, hi, hz0, hz1, hz2⟩ := info_parts info_u8
  have HC := Lib.hid (check_any v l w h hn hs)
  by_cases hc : checkD l = 0
  · have hml := check_ok.1 hc
    rw [if_pos hc]
    rw [hc] at HC ⊢
    have hfit := hml.fits
    have hroom := hml.room
    have H := Lib.hid h
    have HN := Lib.hid (And.intro hn hs)
    obtain ⟨R, hR⟩ : ∃ R, R = roomD l := ⟨_, rfl⟩
    obtain ⟨n, hnn⟩ : ∃ n, n = (formD l).length := ⟨_, rfl⟩
    have HL : Hid (layD l = leB 2 n ++ (formD l ++ List.replicate (R - 2 - n) 0)) := Lib.hid (by rw [hR, hnn]; rfl)
    have hn0 : 1 ≤ n := by
      rw [hnn]
      unfold formD
      rw [List.length_append]
      have := (shortB_len 9 (runs l).length).1
      unfold sh
      omega
    rw [← hR, ← hnn] at hfit
    rw [← hR] at hroom
    have HF : Hid (∀ W, Below w.heap.size w W → Calls Try.prog 20 #[v] W fun e W' => ∃ u, e = .returned u ∧ Rd W' u (formD l) ∧ Below W.heap.size W W') := Lib.hid fun W hb => formOf_any v l W (h.below hb) hn (by omega)
    have HR : Hid (∀ W, Below w.heap.size w W → Calls Try.prog 11 #[v] W fun e W' => e = .returned (.int .i64 (R : Int)) ∧ Below W.heap.size W W') := Lib.hid fun W hb => by
      rw [hR]
      exact room_any v l W (h.below hb) hn hs
    have RI : (R : Int) ≤ 4096 := by omega
    have nI : (n : Int) ≤ 4094 := by omega
    have nR : (n : Int) + 2 ≤ R := by omega
    have nw : IntKind.u64.wrap (n : Int) = (n : Int) := IntWalk.u64_in _ (by omega)
    have HFL : Hid ((formD l).length = n) := Lib.hid hnn.symm
    have HB : Hid (n + 2 ≤ R ∧ R ≤ 4096 ∧ 1 ≤ n) := Lib.hid ⟨hfit, hroom, hn0⟩
    have PutC : Hid (∀ W, Calls Try.prog 21 #[.slice none 0 0, .int .u64 (n : Int), .int .i64 2] W (Own W 5 (leB 2 n))) := Lib.hid fun W => put_yes _ [] n 2 W (Rd.nil W) (by simp) (by omega) (by omega) (by omega)
    obtain ⟨fs, hfs⟩ : ∃ fs, fs = formD l := ⟨_, rfl⟩
    rw [← hfs] at HL HF HFL
    clear hfs hc hml hfit hroom h hn hs hR hnn hn0
    go_enter Try.func8, Try.ntmps8
    go_wp2_with (fail)
    refine HC.out.mono ?_
    rintro e w1 ⟨rfl, hb1⟩
    have B1 := Lib.hid hb1
    clear hb1 HC
    go_wp2_with (fail)
    refine (HF.out _ B1.out).mono ?_
    rintro e w2 ⟨u2, rfl, hr2, hb2⟩
    have B2 := Lib.hid (B1.out.trans (hb2.mono B1.out.size))
    have R2 := Lib.hid hr2
    obtain ⟨A2, c2, rfl, _, _, hA2⟩ := hr2.form
    have HAF : Hid (∀ k, (Value.slice A2 n c2).ownBlock = some k → k < w2.heap.size) := Lib.hid fun k e => by
      obtain ⟨b, off, rfl, hlt, _⟩ := hA2 (by have := HFL.out; have := HB.out; omega)
      have e2 : some b = some k := e
      injection e2 with e2
      omega
    clear hA2
    clear hb2 HF B1 hr2
    have R2' := R2.out
    rw [HFL.out] at R2'
    rw [HFL.out]
    have R3 := Lib.hid R2'
    clear R2' R2
    go_wp2_with (fail)
    refine (HR.out _ B2.out).mono ?_
    rintro e w3 ⟨rfl, hb3⟩
    have B3 := Lib.hid (B2.out.trans (hb3.mono B2.out.size))
    have HSZ := Lib.hid hb3.size
    have R4 := Lib.hid (R3.out.below hb3)
    clear hb3 HR B2 R3
    go_upto_region 6 with (at_make
                           refine wpList_make_full _ rfl _ _ _ rfl w.heap.size 5 i0 _ 1 Try.underlying25 hi hz0 hz1 _ _ _ _ R rfl rfl rfl rfl (by rw [hz2]; have h := HB.out; omega) (by have h := HB.out; unfold maxLen; omega) B3.out.size ?_
                           intro w4 own4 g4)
    have hb4 := blk_of_own own4
    rw [made_one rfl] at hb4
    have K4 : Hid (Blk w4 w3.heap.size 5 ((List.replicate R (0 : UInt8)).map bv)) := Lib.hid (by
      rw [List.map_replicate]
      exact hb4)
    have B4 : Hid (Below w.heap.size w w4) := Lib.hid (B3.out.grown g4 B3.out.size (fun q h => by cases h))
    have bb := (Below.refl w3.heap.size w3).grown g4 (Nat.le_refl _) (fun q h => by cases h)
    have R5 := Lib.hid (R4.out.below bb)
    obtain ⟨G, hG⟩ : ∃ G, G = w3.heap.size := ⟨_, rfl⟩
    have HFAR : Hid (∀ k, (Value.slice A2 n c2).ownBlock = some k → k ≠ G) := Lib.hid fun k e => by
      have h1 := HAF.out k e
      have h2 := HSZ.out
      omega
    have HGW : Hid (w.heap.size ≤ G ∧ G < w4.heap.size) := Lib.hid ⟨by rw [hG]; exact B3.out.size, by rw [hG]; exact hb4.lt⟩
    rw [← hG] at K4 ⊢
    have HZ : Hid ((Try.prog.info? 5).map (·.size) = some 1) := Lib.hid (by rw [hi]; simp [hz1])
    obtain ⟨R2, hR2⟩ : ∃ R2, R2 = R - 2 := ⟨_, rfl⟩
    have HSL : Hid (∀ W, (Instr.slice 25 (.slice (some ⟨G, 0, none⟩) R R) (some (.int .i64 2)) none none).run Try.prog W = .ok (.slice (some ⟨G, 2, none⟩) R2 R2) W) := Lib.hid fun W => by
      rw [hR2]
      exact run_slice_from _ _ i0 Try.underlying25 hi hz1 G 2 R (by have := HB.out; omega) W
    have HR2 := Lib.hid hR2
    clear hG own4 g4 hb4 bb R4 B3 hR2
    go_wp2_with (fail)
    refine (PutC.out _).mono ?_
    rintro e w5 ⟨u5, rfl, own5, b5⟩
    have RU := Lib.hid (Rd.of_own own5)
    have K5 := Lib.hid (K4.out.below b5 HGW.out.2)
    have R6 := Lib.hid (R5.out.below b5)
    have B5 := Lib.hid (B4.out.trans (b5.mono B4.out.size))
    have HG5 : Hid (G < w5.heap.size) := Lib.hid K5.out.lt
    clear own5 b5 K4 R5 B4
    go_upto_region 7 with (refine wpList_copy_rd rfl (.tmp 18) (.tmp 22) _ _ rfl 5 Try.underlying25 HZ.out (some ⟨G, 0, none⟩) R R rfl _ rfl (leB 2 n) RU.out G 0 (List.replicate R 0) 5 K5.out 2 (by rw [leB_length]; have := HB.out; omega) (fun _ => rfl) (by rw [List.length_replicate]; have := HB.out; omega) ?_
                           intro w6 k6 s6
                           have K6 := Lib.hid k6
                           have S6 := Lib.hid s6
                           clear k6 s6)
    have R7 : Hid (Rd w6 (.slice A2 n c2) fs) := Lib.hid (by
      exact (⟨S6.out.below.os, S6.out.below.tape, S6.out.below.output, by rw [S6.out.size]; exact Nat.le_refl _, fun k _ hk => S6.out.other k hk⟩ : Chg (fun k => k = G) w5 w6).rd R6.out HFAR.out)
    clear R6 K5 RU
    go_wp2_with (first
      | (with_reducible refine here_sl ?_
         refine wpList_slice_fact rfl 25 5 Try.underlying25 (.tmp 24) (some (.tmp 25)) none rfl (some ⟨G, 0, none⟩) R R _ _ _ rfl rfl rfl HSL.out ?_)
      | (refine wpList_copy_rd rfl (.tmp 26) (.tmp 27) _ _ rfl 5 Try.underlying25 HZ.out (some ⟨G, 2, none⟩) R2 R2 rfl _ rfl fs R7.out G 2 _ 5 K6.out n (by have h1 := HFL.out; have h2 := HB.out; have h3 := HR2.out; omega) (fun _ => rfl) (by rw [length_splice _ _ _ (by rw [List.length_take, List.length_replicate, leB_length]; have := HB.out; omega), List.length_replicate]; have := HB.out; omega) ?_
         intro w7 k7 s7
         have K7 := Lib.hid k7
         have S7 := Lib.hid s7
         clear k7 s7))
    go_ret2
    refine ⟨_, rfl, ?_, ?_⟩
    · have h1 := K7.out
      rw [lay_splice (leB_length _ _) HFL.out HB.out.1, ← HL.out] at h1
      have h2 := h1.rd R R (by rw [HL.out, List.length_append, List.length_append, leB_length, List.length_replicate, HFL.out]; have := HB.out; omega) (Nat.le_refl _) (by have := HB.out; unfold maxLen; omega)
      rw [List.take_of_length_le (by rw [HL.out, List.length_append, List.length_append, leB_length, List.length_replicate, HFL.out]; have := HB.out; omega)] at h2
      exact h2
    · exact (B5.out.trans (S6.out.below.mono HGW.out.1)).trans (S7.out.below.mono HGW.out.1)
  · rw [if_neg hc]
    have HK : Hid (¬ checkD l = 0) := Lib.hid hc
    obtain ⟨k, hk⟩ : ∃ k, k = checkD l := ⟨_, rfl⟩
    rw [← hk] at HC HK ⊢
    have k0 : ((k : Int) == 0) = false := by rw [beq_eq_false_iff_ne]; have := HK.out; omega
    have k1 : (k == 0) = false := by rw [beq_eq_false_iff_ne]; exact HK.out
    clear h hn hs hk hc
    go_enter Try.func8, Try.ntmps8
    go_wp2_with (fail)
    refine HC.out.mono ?_
    rintro e w1 ⟨rfl, hb1⟩
    have B1 := Lib.hid hb1
    clear hb1 HC
    go_wp2_with (fail)
    go_ret2
    exact ⟨_, rfl, Rd.nil _, B1.out⟩
end Go.Proofs.Ytcicdbhffkpldaa
