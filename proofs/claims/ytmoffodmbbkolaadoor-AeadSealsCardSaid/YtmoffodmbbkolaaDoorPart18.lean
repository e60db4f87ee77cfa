/- Part 18 of the words that the laws share: RefBlk, RefXor. No condition of its own: each theorem says its own. -/
import Derived.Test.YtmoffodmbbkolaaDoorPart14
import Derived.Test.YtmoffodmbbkolaaDoorPart15
import Derived.Test.YtmoffodmbbkolaaDoorPart16
import Derived.Test.YtmoffodmbbkolaaDoorPart17
import Derived.Great.Ranges
import Derived.Lib.SlBytesConst

/- The contract of the fourth reference's Block. Conditions: a key of 32 bytes, a nonce of 12, a number that fits uint32. -/
namespace Go.Proofs.YtmoffodmbbkolaaDoor
open Go.RowKit

theorem wr_const (w : World) (t : TypeId) (xs : List UInt8) {base : Nat} (hb : base ≤ w.heap.size) (hm : xs.length ≤ maxLen) : Wr (w.alloc (.cells (xs.map bv).toArray t (xs.length, xs.length + 1))) base (.slice (some ⟨w.heap.size, 0, none⟩) xs.length xs.length) xs := by
  have hh : (w.alloc (.cells (xs.map bv).toArray t (xs.length, xs.length + 1))).heap[w.heap.size]? = some (.cells (xs.map bv).toArray t (xs.length, xs.length + 1)) := heap_alloc_new w _
  refine ⟨w.heap.size, xs.length, rfl, hb, by simp, Nat.le_refl _, hm, fun j hj => ?_, fun j hj => ⟨?_, ?_⟩⟩
  · rw [cell_of_row _ _ j _ t _ hh]; simp [hj]
  · rw [cell_of_row _ _ j _ t _ hh]; simp [hj]
  · simp only [World.frozen?, hh]; simp; omega
theorem ob_ge {g n c B : Nat} (h : B ≤ g) : ∀ q, (Value.slice (some ⟨g, 0, none⟩) n c).ownBlock = some q → B ≤ q := fun q hq => by
  have e : g = q := by simpa [Value.ownBlock] using hq
  omega
def signC : Array Value := #[.int .u8 101, .int .u8 120, .int .u8 112, .int .u8 97, .int .u8 110, .int .u8 100, .int .u8 32, .int .u8 51, .int .u8 50, .int .u8 45, .int .u8 98, .int .u8 121, .int .u8 116, .int .u8 101, .int .u8 32, .int .u8 107]
theorem signC_eq : signC = (chaSign.map bv).toArray := by rfl
set_option maxRecDepth 100000 in
set_option maxHeartbeats 2000000 in
theorem refBlk_any (k nonce : List UInt8) (n : Nat) (w : World) (hk : k.length = 32) (hno : nonce.length = 12) (hn : n < 4294967296) :
    Calls Tryd.prog 22 #[arrV k, .int .u32 (n : Int), arrV nonce] w (Own w 5 (chaBlock k n nonce)) := by
  obtain ⟨i0, hi, hz0, hz1, hz2⟩ := info_parts info_u8
  have HKL := Lib.hid hk
  have HNL := Lib.hid hno
  have nI : (n : Int) ≤ 4294967295 := by omega
  have kc := fun (w : World) (o p : Obj) (C : Array Value) (n c : Nat) => Lib.run_convert_bytes_const (P := Tryd.prog) ((w.alloc o).alloc p) 26 5 C n c Tryd.underlying26 Tryd.underlying5
  simp only [World.size_alloc] at kc
  obtain ⟨W0, hW0⟩ : ∃ W : World, W = ((w.alloc (.cells (k.map bv).toArray 22)).alloc (.cells (nonce.map bv).toArray 24)).alloc (.cells #[.int .u8 101, .int .u8 120, .int .u8 112, .int .u8 97, .int .u8 110, .int .u8 100, .int .u8 32, .int .u8 51, .int .u8 50, .int .u8 45, .int .u8 98, .int .u8 121, .int .u8 116, .int .u8 101, .int .u8 32, .int .u8 107] 5 (16, 17)) := ⟨_, rfl⟩
  have S0 : W0.heap.size = w.heap.size + 1 + 1 + 1 := by rw [hW0]; simp
  have D0 : Hid (Below w.heap.size w W0) := Lib.hid (by rw [hW0]; exact (((Below.refl _ _).alloc (Nat.le_refl _) _).alloc (by simp) _).alloc (by simp; omega) _)
  have K0 : Hid (Blk W0 w.heap.size 22 (k.map bv)) := Lib.hid (by rw [hW0]; exact ((Blk.made w _ _).alloc _).alloc _)
  have N0 : Hid (Blk W0 (w.heap.size + 1) 24 (nonce.map bv)) := Lib.hid (by
    have h := (Blk.made (w.alloc (.cells (k.map bv).toArray 22)) 24 (nonce.map bv)).alloc (.cells #[.int .u8 101, .int .u8 120, .int .u8 112, .int .u8 97, .int .u8 110, .int .u8 100, .int .u8 32, .int .u8 51, .int .u8 50, .int .u8 45, .int .u8 98, .int .u8 121, .int .u8 116, .int .u8 101, .int .u8 32, .int .u8 107] 5 (16, 17))
    rw [World.size_alloc] at h
    rw [hW0]
    exact h)
  have O0 : Hid (Wr W0 (w.heap.size + 1 + 1) (.slice (some ⟨w.heap.size + 1 + 1, 0, none⟩) 16 16) chaSign) := Lib.hid (by
    have h := wr_const ((w.alloc (.cells (k.map bv).toArray 22)).alloc (.cells (nonce.map bv).toArray 24)) 5 chaSign (Nat.le_refl _) (by unfold maxLen; simp [chaSign])
    rw [World.size_alloc, World.size_alloc] at h
    rw [hW0]
    exact h)
  have rk0 := K0.out.rd 32 32 (by rw [HKL.out]; omega) (by omega) (by unfold maxLen; omega)
  rw [List.take_of_length_le (by rw [HKL.out]; omega)] at rk0
  have RK0 := Lib.hid rk0
  have HB0 : Hid (w.heap.size + 1 + 1 ≤ W0.heap.size) := Lib.hid (by omega)
  have HF : Hid (∀ W, Calls Tryd.prog 23 #[.int .u64 (n : Int), .int .i64 4] W (Own W 5 (leB 4 n))) := Lib.hid fun W => form_any n 4 W (by omega) (by omega)
  have HL4 : Hid ((leB 4 n).length = 4) := Lib.hid (leB_length _ _)
  clear hk hno rk0 S0
  subst hW0
  unfold arrV
  go_enter Tryd.func22, Tryd.ntmps22
  go_wp2_with (first
               | refine Go.Great.wpList_boxTo rfl _ _ rfl _ rfl w.heap.size rfl ((k.map bv).toArray) rfl ?_
               | refine Go.Great.wpList_boxTo rfl _ _ rfl _ rfl (w.heap.size + 1) (by simp) ((nonce.map bv).toArray) rfl ?_
               | at_builtin
                 refine wpList_append_wr _ rfl (.tmp 18) (.tmp 19) _ rfl (w.heap.size + 1 + 1) 5 i0 _ Tryd.underlying26 hi hz0 hz1 hz2 rfl _ chaSign rfl O0.out _ k rfl RK0.out (by rw [HKL.out]; omega) ?_ HB0.out ?_
                 · rw [HKL.out]; simp [chaSign]
                 intro v1 w1 r1 g1)
  have S1 : Hid (w.heap.size + 1 + 1 ≤ w1.heap.size) := Lib.hid (Nat.le_trans HB0.out g1.size)
  have B1 := (Below.refl (w.heap.size + 1 + 1) _).grown g1 HB0.out (ob_ge (Nat.le_refl _))
  have N1 := Lib.hid (N0.out.below B1 (by omega))
  have D1 : Hid (Below w.heap.size w w1) := Lib.hid (D0.out.trans (B1.mono (by omega)))
  have R1 := Lib.hid r1
  clear r1 g1 B1 K0 N0 O0 D0 RK0 HB0
  refine (HF.out _).mono ?_
  rintro e w2 ⟨v2, rfl, own2, hb2⟩
  have R2 := Lib.hid (R1.out.below hb2)
  have F2 := Lib.hid (Rd.of_own own2)
  have N2 := Lib.hid (N1.out.below hb2 N1.out.lt)
  have S2 : Hid (w.heap.size + 1 + 1 ≤ w2.heap.size) := Lib.hid (Nat.le_trans S1.out hb2.size)
  have D2 : Hid (Below w.heap.size w w2) := Lib.hid (D1.out.trans (hb2.mono D1.out.size))
  clear own2 hb2 R1 N1 S1 D1
  go_wp2_with (at_builtin
               refine wpList_append_wr _ rfl (.tmp 21) (.tmp 24) _ rfl (w.heap.size + 1 + 1) 5 i0 _ Tryd.underlying26 hi hz0 hz1 hz2 rfl _ (chaSign ++ k) rfl R2.out _ (leB 4 n) rfl F2.out (by rw [HL4.out]; omega) ?_ S2.out ?_
               · rw [HL4.out, List.length_append, HKL.out]; simp [chaSign]
               intro v3 w3 r3 g3
               have B3 := (Below.refl (w.heap.size + 1 + 1) _).grown g3 S2.out R2.out.ge
               have S3 : Hid (w.heap.size + 1 + 1 ≤ w3.heap.size) := Lib.hid (Nat.le_trans S2.out g3.size)
               have N3 := Lib.hid (N2.out.below B3 (by omega))
               have D3 : Hid (Below w.heap.size w w3) := Lib.hid (D2.out.trans (B3.mono (by omega)))
               have R3 := Lib.hid r3
               have rn3 := N3.out.rd 12 12 (by rw [HNL.out]; omega) (by omega) (by unfold maxLen; omega)
               rw [List.take_of_length_le (by rw [HNL.out]; omega)] at rn3
               have RN3 := Lib.hid rn3
               clear r3 g3 B3 rn3 R2 F2 N2 S2 D2
               go_wp2_with (at_builtin
                            refine wpList_append_wr _ rfl (.tmp 26) (.tmp 27) _ rfl (w.heap.size + 1 + 1) 5 i0 _ Tryd.underlying26 hi hz0 hz1 hz2 rfl _ (chaSign ++ k ++ leB 4 n) rfl R3.out _ nonce rfl RN3.out (by rw [HNL.out]; omega) ?_ S3.out ?_
                            · rw [HNL.out, List.length_append, List.length_append, HL4.out, HKL.out]; simp [chaSign]
                            intro v4 w4 r4 g4))
  have HR4 : Hid (Rd w4 v4 (chaIn k n nonce)) := Lib.hid r4.rd
  have D4 : Hid (Below w.heap.size w w4) := Lib.hid (D3.out.trans (((Below.refl (w.heap.size + 1 + 1) _).grown g4 S3.out R3.out.ge).mono (by omega)))
  obtain ⟨st, hst⟩ : ∃ z, z = chaStart k n nonce := ⟨_, rfl⟩
  have OK : Hid (okW st) := Lib.hid (by rw [hst]; exact wLE_ok _)
  have OK2 := Lib.hid (dblN_ok OK.out 10)
  have HST := Lib.hid hst
  clear r4 g4 R3 N3 S3 D3 RN3 hst
  refine wrd_loop _ _ _ _ _ _ _ _ _ _ _ _ _ _ _ _ _ _ _ _ _ _ _ _ _ _ _ _ _ _ _ _ _ _ _ _ _ _ _ _ _ _ _ _ _ _ _ _ _ _ _ _ _ _ _ _ _ _ _ _ _ _ _ _ _ _ _ _ _ _ _ _ _ _ _ _ _ _ _ _ _ _ _ _ _ _ _ _ _ _ _ _ _ _ _ _ _ _ _ v4 (chaIn k n nonce) w4 HR4 (chaIn_length HKL.out HNL.out n) (Lib.hid ?_)
  intro u10 u29 u30 u31 u32 u33 u34 u35 u36 u37 u38 u39 u40 u41 u42 u43 u44 u45 u46 u47 u48 s v w5 os ov ap bl
  obtain ⟨gs, cs, rfl, _, _⟩ := own_form os.out (by omega)
  obtain ⟨G, cap, rfl, _, _⟩ := own_form ov.out (by omega)
  have hne : (Value.slice (some ⟨gs, 0, none⟩) 16 cs).ownBlock ≠ some G := fun e => ap.out gs rfl (by simpa [Value.ownBlock] using e.symm)
  have Q5s : Hid (Q4 w4.heap.size gs cs st w5) := Lib.hid (by rw [HST.out]; exact os.out)
  have Q5 : Hid (Q4 w4.heap.size G cap st w5) := Lib.hid (by rw [HST.out]; exact ov.out)
  have GL : Hid (w4.heap.size ≤ G) := Lib.hid (ov.out.lt G rfl).1
  clear os ov ap HR4
  go_wp2_with (fail)
  refine dbl_loop _ _ _ _ _ _ _ _ _ _ _ _ _ _ _ _ _ _ _ _ _ _ _ _ _ _ _ _ _ _ _ _ _ _ _ _ _ _ _ _ _ _ _ _ _ _ _ _ _ _ _ _ _ _ _ _ _ _ _ _ _ _ _ _ _ _ _ _ _ _ _ _ _ _ _ _ _ _ _ _ _ _ _ _ _ _ _ _ _ _ _ _ _ _ _ _ _ _ _ _ _ w4.heap.size G cap st w5 Q5 OK (Lib.hid ?_)
  intro u11 u12 u13 u49 u50 u51 u52 u53 u54 u55 u56 u57 u58 u59 u60 u61 u62 u63 u64 u65 u66 u67 u68 u69 u70 u71 u72 u73 u74 u75 u76 u77 u78 u79 u80 u81 u82 u83 u84 w6 h6 s6
  have Q6s : Hid (Q4 w4.heap.size gs cs st w6) := Lib.hid (own_sole Q5s.out s6.out hne)
  have D6 : Hid (Below w.heap.size w w6) := Lib.hid ((D4.out.trans (bl.out.mono D4.out.size)).trans (s6.out.below.mono (Nat.le_trans D4.out.size GL.out)))
  have h0 : Hid (OutS w6 gs G st (dblN st 10) (.slice none 0 0) 0 w6) := Lib.hid ⟨fun i hi => Q6s.out.cell OK.out hi, fun i hi => h6.out.cell OK2.out hi, (Q6s.out.lt gs rfl).2, (h6.out.lt G rfl).2, World.ownsRow_nil _ _ _ _, Below.refl _ _⟩
  clear Q5s Q5 Q6s h6 s6 hne bl
  go_wp2_with (fail)
  refine outq_loop _ _ _ _ _ _ _ _ _ _ _ _ _ _ _ _ _ _ _ _ _ _ _ _ _ _ _ _ _ _ _ _ _ _ _ _ _ _ _ _ _ _ _ _ _ _ _ _ _ _ _ _ _ _ _ _ _ _ _ _ _ _ _ _ _ _ _ _ _ _ _ _ _ _ _ _ _ _ _ _ _ _ _ _ _ _ _ _ _ _ _ _ _ _ _ _ _ _ _ gs cs G cap st (dblN st 10) w6 OK OK2 h0 (Lib.hid ?_)
  intro u15 u85 u86 u87 u88 u89 u90 u91 u92 u93 u94 u95 u96 u97 u98 u99 u100 u101 o w7 h7
  go_wp2_with (fail)
  go_ret
  refine ⟨o, rfl, ?_, D6.out.trans (h7.out.below.mono D6.out.size)⟩
  have h := own_mono h7.out.own D6.out.size
  rw [chaBlock_length, chaBlock, ← HST.out]
  exact h
end Go.Proofs.YtmoffodmbbkolaaDoor

/- The contract of the fourth reference's Xor. Conditions: a key of 32 bytes, a nonce of 12, a number that fits uint32; at most 1000000 bytes. -/
namespace Go.Proofs.YtmoffodmbbkolaaDoor
open Go.RowKit
attribute [local go_sem ↓] Go.wp_at_zero Go.wp_at_succ

structure RxS (w : World) (k nonce bs : List UInt8) (n0 : Nat) (m o blk : Value) (j : Nat) (W : World) : Prop where
  num : m = .int .u32 (((n0 + (j + 63) / 64) % 4294967296 : Nat) : Int)
  own : W.ownsRow w.heap.size 5 1 o j (((chaXor k nonce n0 bs).take j).map bv)
  rdb : 0 < j % 64 → Rd W blk (chaBlock k ((n0 + j / 64) % 4294967296) nonce)
  apart : 0 < j % 64 → Apart2 blk o
  below : Below w.heap.size w W
def RxRel (w : World) (k nonce bs : List UInt8) (n0 : Nat) (m o blk i : Value) (W : World) : Prop :=
  ∃ j : Nat, i = .int .i64 (j : Int) ∧ j ≤ bs.length ∧ RxS w k nonce bs n0 m o blk j W
theorem chaXor_succ (k nonce : List UInt8) (n : Nat) (b : List UInt8) (j : Nat) (h : j < b.length) : (chaXor k nonce n b).take (j + 1) = (chaXor k nonce n b).take j ++ [b[j] ^^^ chaS k nonce n j] := by
  rw [List.take_succ_eq_append_getElem (by rw [chaXor_length]; exact h)]
  simp [chaXor]
theorem RxS.next {w W W' : World} {k nonce bs : List UInt8} {n0 j : Nat} {blk m' o' : Value} {y : UInt8} (h : Below w.heap.size w W) (hj : j < bs.length) (hy : y = chaS k nonce n0 j) (hm : m' = .int .u32 (((n0 + (j + 64) / 64) % 4294967296 : Nat) : Int))
    (ho : W'.ownsRow w.heap.size 5 1 o' (j + 1) (((chaXor k nonce n0 bs).take j).map bv ++ [bv (bs[j] ^^^ y)])) (hr : Rd W' blk (chaBlock k ((n0 + j / 64) % 4294967296) nonce)) (hap : Apart2 blk o') (hb : Below w.heap.size W W') : RxS w k nonce bs n0 m' o' blk (j + 1) W' := by
  refine ⟨hm, ?_, fun h0 => ?_, fun _ => hap, h.trans hb⟩
  · rw [chaXor_succ _ _ _ _ _ hj, List.map_append, ← hy]
    exact ho
  · rw [show (j + 1) / 64 = j / 64 by omega]
    exact hr
noncomputable def body_rxor : Code := (((Tryd.f21.body.map loopsOf).getD [])[0]?).getD .skip
set_option maxRecDepth 100000 in
set_option maxHeartbeats 2000000 in
theorem rxor_loop (c0 c1 c6 c7 c8 c12 c13 c14 c15 c16 c17 c18 c19 c20 c21 c22 c23 c24 c25 c26 c27 c28 c29 c30 c31 c32 c33 c34 c35 c36 c37 c38 c39 c40 : Value) (v : Value) (k nonce bs : List UInt8) (n0 KB NB : Nat) (w : World) (hk : Hid (k.length = 32)) (hno : Hid (nonce.length = 12)) (hn : n0 < 4294967296) (hv : Hid (Rd w v bs)) (hl : bs.length ≤ 1000000)
    (hkb : Hid (Blk w KB 22 (k.map bv))) (hnb : Hid (Blk w NB 24 (nonce.map bv))) {Q : Exit → Act → World → Prop}
    (HQ : Hid (∀ (u10 u11 u12 u13 u14 u15 u16 u17 u18 u19 u20 u21 u22 u23 u24 u25 u26 u27 u28 u29 u30 u31 u32 u33 u34 u35 u36 u37 u38 u39 m o : Value) (wx : World), Hid (wx.ownsRow w.heap.size 5 1 o bs.length ((chaXor k nonce n0 bs).map bv)) → Hid (Below w.heap.size w wx) → Q (.exit 0) ⟨List.toArray (c0 :: c1 :: m :: v :: (.pointer (some ⟨KB, 0, none⟩)) :: (.pointer (some ⟨NB, 0, none⟩)) :: c6 :: c7 :: c8 :: o :: u10 :: u11 :: u12 :: u13 :: u14 :: u15 :: u16 :: u17 :: u18 :: u19 :: u20 :: u21 :: u22 :: u23 :: u24 :: u25 :: u26 :: u27 :: u28 :: u29 :: u30 :: u31 :: u32 :: u33 :: u34 :: u35 :: u36 :: u37 :: u38 :: u39 :: c40 :: []), []⟩ wx)) :
    (Code.loop body_rxor).wp Tryd.prog Q ⟨List.toArray (c0 :: c1 :: (.int .u32 (n0 : Int)) :: v :: (.pointer (some ⟨KB, 0, none⟩)) :: (.pointer (some ⟨NB, 0, none⟩)) :: c6 :: c7 :: c8 :: (.slice none 0 0) :: (.slice none 0 0) :: (.int .i64 0) :: c12 :: c13 :: c14 :: c15 :: c16 :: c17 :: c18 :: c19 :: c20 :: c21 :: c22 :: c23 :: c24 :: c25 :: c26 :: c27 :: c28 :: c29 :: c30 :: c31 :: c32 :: c33 :: c34 :: c35 :: c36 :: c37 :: c38 :: c39 :: c40 :: []), []⟩ w := by
  obtain ⟨i0, hi, hz0, hz1, hz2⟩ := info_parts info_u8
  have HI32 : Hid ((Tryd.prog.info? 22).map (·.size) = some 32) := by show _ = _; kernel_rfl
  have HI12 : Hid ((Tryd.prog.info? 24).map (·.size) = some 12) := by show _ = _; kernel_rfl
  have HKM : Hid ((k.map bv).length = 32) := by show _ = _; rw [List.length_map, hk.out]
  have HNM : Hid ((nonce.map bv).length = 12) := by show _ = _; rw [List.length_map, hno.out]
  obtain ⟨A, c, rfl, hc1, hc2, hA⟩ := hv.out.form
  have HA := Lib.hid hA
  have hlI : (bs.length : Int) ≤ 1000000 := by omega
  unfold maxLen at hc2
  have NL := Lib.hid hn
  clear hA hn
  unfold body_rxor
  conv => arg 2; arg 1; whnf
  go_loopw [2, 9, 10, 11] (fun m o b i wx => RxRel w k nonce bs n0 m o b i wx) (fun _ _ _ i _ => bs.length - (intOf i).toNat)
  case atStart => exact ⟨0, rfl, by omega, ⟨congrArg (Value.int .u32) (by have := NL.out; omega), World.ownsRow_nil _ _ _ _, fun h => by omega, fun h => by omega, Below.refl _ _⟩⟩
  case round =>
    obtain ⟨j, rfl, hj, st⟩ := hrel
    by_cases hlt : j < bs.length
    · have hI : (j : Int) < bs.length := by omega
      obtain ⟨q, hq⟩ : ∃ q, q = (n0 + (j + 63) / 64) % 4294967296 := ⟨_, rfl⟩
      have hm := st.num
      rw [← hq] at hm
      obtain ⟨bk, hbk⟩ := ex_eq1 (chaBlock k ((n0 + j / 64) % 4294967296) nonce)
      have HBL : Hid (bk.length = 64) := by show _ = _; rw [hbk, chaBlock_length]
      obtain ⟨y, hy⟩ : ∃ y, y = bk.getD (j % 64) 0 := ⟨_, rfl⟩
      have HY : Hid (y = chaS k nonce n0 j) := by show _ = _; rw [hy, hbk]; rfl
      obtain ⟨b, off, rfl, hb1, hb2⟩ := HA.out (by omega)
      have hcx := (st.below.cell (p := ⟨b, off + j, none⟩) hb1).trans (hb2 j hlt)
      obtain ⟨x, hx⟩ : ∃ x, x = bs[j] := ⟨_, rfl⟩
      rw [← hx] at hcx
      have HX := Lib.hid hx
      have HST := Lib.hid st
      have HBK := Lib.hid hbk
      have HYG := Lib.hid hy
      have HQ2 := Lib.hid hq

      have hqI : (q : Int) ≤ 4294967295 := by omega
      have hxI : (x.toNat : Int) ≤ 255 := by have := x.toNat_lt; omega
      have hyI : (y.toNat : Int) ≤ 255 := by have := y.toNat_lt; omega
      obtain ⟨r, hr⟩ : ∃ r, r = j % 64 := ⟨_, rfl⟩
      have hr64 : (r : Int) < 64 := by omega
      have HR := Lib.hid hr
      subst hm
      clear hb2 st hq hbk hy hx hj hr
      by_cases h64 : j % 64 = 0
      · have e64 : (((j : Int) % 64) == 0) = true := by rw [beq_iff_eq]; omega
        have HB : Hid (∀ W, Calls Tryd.prog 22 #[.agg (k.map bv).toArray, .int .u32 (q : Int), .agg (nonce.map bv).toArray] W (Own W 5 bk)) := Lib.hid fun W => by
          have h := refBlk_any k nonce q W hk.out hno.out (by omega)
          have e : chaBlock k q nonce = bk := by
            rw [HBK.out, HQ2.out, show (j + 63) / 64 = j / 64 by omega]
          rw [e] at h
          exact h
        have K1 := Lib.hid (hkb.out.below HST.out.below hkb.out.lt)
        have N1 := Lib.hid (hnb.out.below HST.out.below hnb.out.lt)
        have H64 := Lib.hid h64
        clear h64
        go_wp2_with (first
                     | refine wpList_load_blk rfl 22 _ rfl KB rfl 22 (k.map bv) _ K1.out Tryd.underlying22 rfl (by rw [HKM.out]; exact HI32.out) ?_
                     | refine wpList_load_blk rfl 24 _ rfl NB rfl 24 (nonce.map bv) _ N1.out Tryd.underlying24 rfl (by rw [HNM.out]; exact HI12.out) ?_)
        refine (HB.out _).mono ?_
        rintro e w1 ⟨vb, rfl, ownb, hbw⟩
        have rb := Rd.of_own ownb
        have BL1 : Hid (Below w.heap.size w w1) := Lib.hid (HST.out.below.trans (hbw.mono HST.out.below.size))
        have OW1 := Lib.hid (own_lain HST.out.own hbw)
        have hcx1 := (hbw.cell (p := ⟨b, off + j, none⟩) (World.block_lt_of_cell? _ _ hcx)).trans hcx
        have AP : Hid (Apart2 vb u9) := Lib.hid (fun q h1 h2 => by have := (ownb.lt q h1).1; have := (HST.out.own.lt q h2).2; omega)
        clear ownb hbw hcx
        obtain ⟨A2, cb, rfl, hb3, hb4, hA2⟩ := rb.form
        obtain ⟨g, off2, rfl, g1, g2⟩ := hA2 (by rw [HBL.out]; omega)
        have cy := g2 r (by rw [HBL.out]; omega)
        have ey : bk[r]'(by rw [HBL.out]; omega) = y := by rw [HYG.out, ← HR.out, List.getD, List.getElem?_eq_getElem (by rw [HBL.out]; omega)]; rfl
        rw [ey] at cy
        have cbI : (64 : Int) ≤ cb := by have := HBL.out; omega
        unfold maxLen at hb4
        rw [HBL.out]
        rw [HBL.out] at rb
        have RB := Lib.hid rb
        have AP2 : Hid (Apart2 (.slice (some ⟨g, off2, none⟩) 64 cb) u9) := Lib.hid (by have h := AP.out; rw [HBL.out] at h; exact h)
        have HGL := Lib.hid g1
        have X1 : Value.int .u8 (bits .xor .u8 (x.toNat : Int) (y.toNat : Int)) = bv (x ^^^ y) := xor_u8 x y
        have HX1 := Lib.hid X1
        have rI : (0 : Int) ≤ r := by omega
        have er : ((j : Int)).tmod 64 = (r : Int) := by have h := HR.out; rw [Int.tmod_eq_emod_of_nonneg (by omega)]; omega
        have er2 : ((j : Int)) % 64 = (r : Int) := by have h := HR.out; omega
        have ow : IntKind.i64.wrap (r : Int) = (r : Int) := IntWalk.i64_in _ (by omega)
        have qm : Hid (j + 1 ≤ maxLen) := by show j + 1 ≤ maxLen; unfold maxLen; omega
        have qb : Hid ((j + 1) * 1 ≤ 140737488355328) := by show (j + 1) * 1 ≤ 140737488355328; omega
        have hsz : w.heap.size ≤ w1.heap.size := BL1.out.size
        have HBS : Hid (b < w1.heap.size) := Lib.hid (Nat.lt_of_lt_of_le hb1 hsz)
        have HNE1 : Hid (some b ≠ u9.ownBlock) := Lib.hid (fun e => by have := (OW1.out.lt b e.symm).1; omega)
        have HNE2 : Hid (some g ≠ u9.ownBlock) := Lib.hid (fun e => AP.out g rfl e.symm)
        clear g2 ey rb X1 hb3 hA2 g1
        go_wp2_with (fail)
        go_region_held3 (fun W => W.cell? ⟨b, off + j, none⟩ = some (.int .u8 (x.toNat : Int)) ∧ W.cell? ⟨g, off2 + r, none⟩ = some (.int .u8 (y.toNat : Int)))
          (first | go_keep | exact ⟨(gr.cell (p := ⟨b, off + j, none⟩) HBS.out HNE1.out).trans (by assumption), (gr.cell (p := ⟨g, off2 + r, none⟩) HGL.out HNE2.out).trans (by assumption)⟩)
          ((refine step_append_one_at w1 _ _ (by rfl) _ _ _ (by rfl) w.heap.size 5 i0 _ 1 Tryd.underlying26 hi hz0 hz1 hz2 rfl rfl _ _ _ (by rfl) OW1.out (by rfl) qm.out qb.out hsz ?_; intro o2 w2 own2 gr))
        go_wp2_with (fail)
        go_roundw
        case rel =>
          refine ⟨j + 1, by go_num, by omega, RxS.next BL1.out hlt HY.out ?_ (by rw [← HX.out, ← HX1.out]; exact own2) (by rw [← HBK.out]; exact gr.rd RB.out AP2.out) (gr.apart (ob_lt HGL.out) AP2.out) gr.below⟩
          exact congrArg (Value.int .u32) (by have h1 := HQ2.out; have h2 := H64.out; omega)
        case measure => simp [intOf]; omega
      · have e64 : (((j : Int) % 64) == 0) = false := by rw [beq_eq_false_iff_ne]; omega
        have rb := HST.out.rdb (by omega)
        rw [← HBK.out] at rb
        have BL1 := Lib.hid HST.out.below
        have AP := Lib.hid (HST.out.apart (by omega))
        have OW1 := Lib.hid HST.out.own
        have H64 := Lib.hid h64
        clear h64
        obtain ⟨A2, cb, rfl, hb3, hb4, hA2⟩ := rb.form
        obtain ⟨g, off2, rfl, g1, g2⟩ := hA2 (by rw [HBL.out]; omega)
        have cy := g2 r (by rw [HBL.out]; omega)
        have ey : bk[r]'(by rw [HBL.out]; omega) = y := by rw [HYG.out, ← HR.out, List.getD, List.getElem?_eq_getElem (by rw [HBL.out]; omega)]; rfl
        rw [ey] at cy
        have cbI : (64 : Int) ≤ cb := by have := HBL.out; omega
        unfold maxLen at hb4
        rw [HBL.out]
        rw [HBL.out] at rb
        have RB := Lib.hid rb
        have AP2 : Hid (Apart2 (.slice (some ⟨g, off2, none⟩) 64 cb) u9) := Lib.hid (by have h := AP.out; rw [HBL.out] at h; exact h)
        have HGL := Lib.hid g1
        have X1 : Value.int .u8 (bits .xor .u8 (x.toNat : Int) (y.toNat : Int)) = bv (x ^^^ y) := xor_u8 x y
        have HX1 := Lib.hid X1
        have rI : (0 : Int) ≤ r := by omega
        have er : ((j : Int)).tmod 64 = (r : Int) := by have h := HR.out; rw [Int.tmod_eq_emod_of_nonneg (by omega)]; omega
        have er2 : ((j : Int)) % 64 = (r : Int) := by have h := HR.out; omega
        have ow : IntKind.i64.wrap (r : Int) = (r : Int) := IntWalk.i64_in _ (by omega)
        have qm : Hid (j + 1 ≤ maxLen) := by show j + 1 ≤ maxLen; unfold maxLen; omega
        have qb : Hid ((j + 1) * 1 ≤ 140737488355328) := by show (j + 1) * 1 ≤ 140737488355328; omega
        have hsz : w.heap.size ≤ wr.heap.size := BL1.out.size
        have HBS : Hid (b < wr.heap.size) := Lib.hid (Nat.lt_of_lt_of_le hb1 hsz)
        have HNE1 : Hid (some b ≠ u9.ownBlock) := Lib.hid (fun e => by have := (OW1.out.lt b e.symm).1; omega)
        have HNE2 : Hid (some g ≠ u9.ownBlock) := Lib.hid (fun e => AP.out g rfl e.symm)
        clear g2 ey rb X1 hb3 hA2 g1
        go_wp2_with (fail)
        go_region_held3 (fun W => W.cell? ⟨b, off + j, none⟩ = some (.int .u8 (x.toNat : Int)) ∧ W.cell? ⟨g, off2 + r, none⟩ = some (.int .u8 (y.toNat : Int)))
          (first | go_keep | exact ⟨(gr.cell (p := ⟨b, off + j, none⟩) HBS.out HNE1.out).trans (by assumption), (gr.cell (p := ⟨g, off2 + r, none⟩) HGL.out HNE2.out).trans (by assumption)⟩)
          ((refine step_append_one_at wr _ _ (by rfl) _ _ _ (by rfl) w.heap.size 5 i0 _ 1 Tryd.underlying26 hi hz0 hz1 hz2 rfl rfl _ _ _ (by rfl) OW1.out (by rfl) qm.out qb.out hsz ?_; intro o2 w2 own2 gr))
        go_wp2_with (fail)
        go_roundw
        case rel =>
          refine ⟨j + 1, by go_num, by omega, RxS.next BL1.out hlt HY.out ?_ (by rw [← HX.out, ← HX1.out]; exact own2) (by rw [← HBK.out]; exact gr.rd RB.out AP2.out) (gr.apart (ob_lt HGL.out) AP2.out) gr.below⟩
          exact congrArg (Value.int .u32) (by have h1 := HQ2.out; have h2 := H64.out; omega)
        case measure => simp [intOf]; omega
    · obtain rfl : j = bs.length := by omega
      have HO : Hid (wr.ownsRow w.heap.size 5 1 u9 bs.length ((chaXor k nonce n0 bs).map bv)) := Lib.hid (by
        have h := st.own
        rw [List.take_of_length_le (by rw [chaXor_length]; exact Nat.le_refl _)] at h
        exact h)
      have HB := Lib.hid st.below
      clear st hj
      go_wp2_with (fail)
      exact HQ.out _ _ _ _ _ _ _ _ _ _ _ _ _ _ _ _ _ _ _ _ _ _ _ _ _ _ _ _ _ _ _ _ _ HO HB
set_option maxRecDepth 100000 in
set_option maxHeartbeats 2000000 in
theorem refXor_any (v : Value) (k nonce bs : List UInt8) (n : Nat) (w : World) (hk : k.length = 32) (hno : nonce.length = 12) (hn : n < 4294967296) (hv : Rd w v bs) (hl : bs.length ≤ 1000000) :
    Calls Tryd.prog 21 #[arrV k, arrV nonce, .int .u32 (n : Int), v] w (Own w 5 (chaXor k nonce n bs)) := by
  obtain ⟨W0, hW0⟩ : ∃ W : World, W = (w.alloc (.cells (k.map bv).toArray 22)).alloc (.cells (nonce.map bv).toArray 24) := ⟨_, rfl⟩
  have D0 : Hid (Below w.heap.size w W0) := Lib.hid (by rw [hW0]; exact ((Below.refl _ _).alloc (Nat.le_refl _) _).alloc (by simp) _)
  have K0 : Hid (Blk W0 w.heap.size 22 (k.map bv)) := Lib.hid (by rw [hW0]; exact (Blk.made w _ _).alloc _)
  have N0 : Hid (Blk W0 (w.heap.size + 1) 24 (nonce.map bv)) := Lib.hid (by
    have h := Blk.made (w.alloc (.cells (k.map bv).toArray 22)) 24 (nonce.map bv)
    rw [World.size_alloc] at h
    rw [hW0]
    exact h)
  have R0 := Lib.hid (hv.below D0.out)
  have HK := Lib.hid hk
  have HN := Lib.hid hno
  have nI : (n : Int) ≤ 4294967295 := by omega
  clear hk hno hv
  subst hW0
  unfold arrV
  go_enter Tryd.func21, Tryd.ntmps21
  go_wp2_with (first
               | refine Go.Great.wpList_boxTo rfl _ _ rfl _ rfl w.heap.size rfl ((k.map bv).toArray) rfl ?_
               | refine Go.Great.wpList_boxTo rfl _ _ rfl _ rfl (w.heap.size + 1) (by simp) ((nonce.map bv).toArray) rfl ?_)
  refine rxor_loop _ _ _ _ _ _ _ _ _ _ _ _ _ _ _ _ _ _ _ _ _ _ _ _ _ _ _ _ _ _ _ _ _ _ v k nonce bs n w.heap.size (w.heap.size + 1) _ HK HN hn R0 hl K0 N0 (Lib.hid ?_)
  intro u10 u11 u12 u13 u14 u15 u16 u17 u18 u19 u20 u21 u22 u23 u24 u25 u26 u27 u28 u29 u30 u31 u32 u33 u34 u35 u36 u37 u38 u39 m o w2 ho hb
  go_wp2_with (fail)
  go_ret
  refine ⟨o, rfl, ?_, D0.out.trans (hb.out.mono D0.out.size)⟩
  rw [chaXor_length]
  exact own_mono ho.out D0.out.size
end Go.Proofs.YtmoffodmbbkolaaDoor
