/- The contract of the fourth reference's Block. Conditions: a key of 32 bytes, a nonce of 12, a number that fits uint32. -/
import Derived.Test.YtnpojhmcgohdlaaDoorRefBlkA
import Derived.Test.YtnpojhmcgohdlaaDoorRefBlkC
import Derived.Test.YtnpojhmcgohdlaaDoorRefBlkD
import Derived.Test.YtnpojhmcgohdlaaDoorWr
import Derived.Great.Ranges
import Derived.Lib.SlBytesConst
namespace Go.Proofs.YtnpojhmcgohdlaaDoor
open Go.RowKit

theorem wr_const (w : World) (t : TypeId) (xs : List UInt8) {base : Nat} (hb : base ≤ w.heap.size) (hm : xs.length ≤ maxLen) : Wr (w.alloc (.cells (xs.map bv).toArray t (xs.length, xs.length + 1))) base (.slice (some ⟨w.heap.size, 0, none⟩) xs.length xs.length) xs := by
  have hh : (w.alloc (.cells (xs.map bv).toArray t (xs.length, xs.length + 1))).heap[w.heap.size]? = some (.cells (xs.map bv).toArray t (xs.length, xs.length + 1)) := heap_alloc_new w _
  refine ⟨w.heap.size, xs.length, rfl, hb, by simp, Nat.le_refl _, hm, fun j hj => ?_, fun j hj => ⟨?_, ?_⟩⟩
  · rw [cell_of_row _ _ j _ t _ hh]; simp [hj]
  · rw [cell_of_row _ _ j _ t _ hh]; simp [hj]
  · simp only [World.frozen?, hh]; simp; omega
theorem ob_ge {g n c B : Nat} (h : B ≤ g) : ∀ q, (Value.slice (some ⟨g, 0, none⟩) n c).ownBlock = some q → B ≤ q := fun q hq => by
  have e : g = q := by simpa [Value.ownBlock] using hq
  omega
def signC : Array Value := #[.int .u8 101, .int .u8 120, .int .u8 112, .int .u8 97, .int .u8 110, .int .u8 100, .int .u8 32, .int .u8 51, .int .u8 50, .int .u8 45, .int .u8 98, .int .u8 121, .int .u8 116, .int .u8 101, .int .u8 32, .int .u8 107]
theorem signC_eq : signC = (chaSign.map bv).toArray := by rfl
set_option maxRecDepth 100000 in
set_option maxHeartbeats 2000000 in
theorem refBlk_any (k nonce : List UInt8) (n : Nat) (w : World) (hk : k.length = 32) (hno : nonce.length = 12) (hn : n < 4294967296) :
    Calls Tryd.prog 9 #[arrV k, .int .u32 (n : Int), arrV nonce] w (Own w 5 (chaBlock k n nonce)) := by
  obtain ⟨i0, hi, hz0, hz1, hz2⟩ := info_parts info_u8
  have HKL := Lib.hid hk
  have HNL := Lib.hid hno
  have nI : (n : Int) ≤ 4294967295 := by omega
  have kc := fun (w : World) (o p : Obj) (C : Array Value) (n c : Nat) => Lib.run_convert_bytes_const (P := Tryd.prog) ((w.alloc o).alloc p) 30 5 C n c Tryd.underlying30 Tryd.underlying5
  simp only [World.size_alloc] at kc
  obtain ⟨W0, hW0⟩ : ∃ W : World, W = ((w.alloc (.cells (k.map bv).toArray 22)).alloc (.cells (nonce.map bv).toArray 25)).alloc (.cells #[.int .u8 101, .int .u8 120, .int .u8 112, .int .u8 97, .int .u8 110, .int .u8 100, .int .u8 32, .int .u8 51, .int .u8 50, .int .u8 45, .int .u8 98, .int .u8 121, .int .u8 116, .int .u8 101, .int .u8 32, .int .u8 107] 5 (16, 17)) := ⟨_, rfl⟩
  have S0 : W0.heap.size = w.heap.size + 1 + 1 + 1 := by rw [hW0]; simp
  have D0 : Hid (Below w.heap.size w W0) := Lib.hid (by rw [hW0]; exact (((Below.refl _ _).alloc (Nat.le_refl _) _).alloc (by simp) _).alloc (by simp; omega) _)
  have K0 : Hid (Blk W0 w.heap.size 22 (k.map bv)) := Lib.hid (by rw [hW0]; exact ((Blk.made w _ _).alloc _).alloc _)
  have N0 : Hid (Blk W0 (w.heap.size + 1) 25 (nonce.map bv)) := Lib.hid (by
    have h := (Blk.made (w.alloc (.cells (k.map bv).toArray 22)) 25 (nonce.map bv)).alloc (.cells #[.int .u8 101, .int .u8 120, .int .u8 112, .int .u8 97, .int .u8 110, .int .u8 100, .int .u8 32, .int .u8 51, .int .u8 50, .int .u8 45, .int .u8 98, .int .u8 121, .int .u8 116, .int .u8 101, .int .u8 32, .int .u8 107] 5 (16, 17))
    rw [World.size_alloc] at h
    rw [hW0]
    exact h)
  have O0 : Hid (Wr W0 (w.heap.size + 1 + 1) (.slice (some ⟨w.heap.size + 1 + 1, 0, none⟩) 16 16) chaSign) := Lib.hid (by
    have h := wr_const ((w.alloc (.cells (k.map bv).toArray 22)).alloc (.cells (nonce.map bv).toArray 25)) 5 chaSign (Nat.le_refl _) (by unfold maxLen; simp [chaSign])
    rw [World.size_alloc, World.size_alloc] at h
    rw [hW0]
    exact h)
  have rk0 := K0.out.rd 32 32 (by rw [HKL.out]; omega) (by omega) (by unfold maxLen; omega)
  rw [List.take_of_length_le (by rw [HKL.out]; omega)] at rk0
  have RK0 := Lib.hid rk0
  have HB0 : Hid (w.heap.size + 1 + 1 ≤ W0.heap.size) := Lib.hid (by omega)
  have HF : Hid (∀ W, Calls Tryd.prog 17 #[.int .u64 (n : Int), .int .i64 4] W (Own W 5 (leB 4 n))) := Lib.hid fun W => form_any n 4 W (by omega) (by omega)
  have HL4 : Hid ((leB 4 n).length = 4) := Lib.hid (leB_length _ _)
  clear hk hno rk0 S0
  subst hW0
  unfold arrV
  go_enter Tryd.func9, Tryd.ntmps9
  go_wp2_with (first
               | refine Go.Great.wpList_boxTo rfl _ _ rfl _ rfl w.heap.size rfl ((k.map bv).toArray) rfl ?_
               | refine Go.Great.wpList_boxTo rfl _ _ rfl _ rfl (w.heap.size + 1) (by simp) ((nonce.map bv).toArray) rfl ?_
               | at_builtin
                 refine wpList_append_wr _ rfl (.tmp 18) (.tmp 19) _ rfl (w.heap.size + 1 + 1) 5 i0 _ Tryd.underlying30 hi hz0 hz1 hz2 rfl _ chaSign rfl O0.out _ k rfl RK0.out (by rw [HKL.out]; omega) ?_ HB0.out ?_
                 · rw [HKL.out]; simp [chaSign]
                 intro v1 w1 r1 g1)
  have S1 : Hid (w.heap.size + 1 + 1 ≤ w1.heap.size) := Lib.hid (Nat.le_trans HB0.out g1.size)
  have B1 := (Below.refl (w.heap.size + 1 + 1) _).grown g1 HB0.out (ob_ge (Nat.le_refl _))
  have N1 := Lib.hid (N0.out.below B1 (by omega))
  have D1 : Hid (Below w.heap.size w w1) := Lib.hid (D0.out.trans (B1.mono (by omega)))
  have R1 := Lib.hid r1
  clear r1 g1 B1 K0 N0 O0 D0 RK0 HB0
  refine (HF.out _).mono ?_
  rintro e w2 ⟨v2, rfl, own2, hb2⟩
  have R2 := Lib.hid (R1.out.below hb2)
  have F2 := Lib.hid (Rd.of_own own2)
  have N2 := Lib.hid (N1.out.below hb2 N1.out.lt)
  have S2 : Hid (w.heap.size + 1 + 1 ≤ w2.heap.size) := Lib.hid (Nat.le_trans S1.out hb2.size)
  have D2 : Hid (Below w.heap.size w w2) := Lib.hid (D1.out.trans (hb2.mono D1.out.size))
  clear own2 hb2 R1 N1 S1 D1
  go_wp2_with (at_builtin
               refine wpList_append_wr _ rfl (.tmp 21) (.tmp 24) _ rfl (w.heap.size + 1 + 1) 5 i0 _ Tryd.underlying30 hi hz0 hz1 hz2 rfl _ (chaSign ++ k) rfl R2.out _ (leB 4 n) rfl F2.out (by rw [HL4.out]; omega) ?_ S2.out ?_
               · rw [HL4.out, List.length_append, HKL.out]; simp [chaSign]
               intro v3 w3 r3 g3
               have B3 := (Below.refl (w.heap.size + 1 + 1) _).grown g3 S2.out R2.out.ge
               have S3 : Hid (w.heap.size + 1 + 1 ≤ w3.heap.size) := Lib.hid (Nat.le_trans S2.out g3.size)
               have N3 := Lib.hid (N2.out.below B3 (by omega))
               have D3 : Hid (Below w.heap.size w w3) := Lib.hid (D2.out.trans (B3.mono (by omega)))
               have R3 := Lib.hid r3
               have rn3 := N3.out.rd 12 12 (by rw [HNL.out]; omega) (by omega) (by unfold maxLen; omega)
               rw [List.take_of_length_le (by rw [HNL.out]; omega)] at rn3
               have RN3 := Lib.hid rn3
               clear r3 g3 B3 rn3 R2 F2 N2 S2 D2
               go_wp2_with (at_builtin
                            refine wpList_append_wr _ rfl (.tmp 26) (.tmp 27) _ rfl (w.heap.size + 1 + 1) 5 i0 _ Tryd.underlying30 hi hz0 hz1 hz2 rfl _ (chaSign ++ k ++ leB 4 n) rfl R3.out _ nonce rfl RN3.out (by rw [HNL.out]; omega) ?_ S3.out ?_
                            · rw [HNL.out, List.length_append, List.length_append, HL4.out, HKL.out]; simp [chaSign]
                            intro v4 w4 r4 g4))
  have HR4 : Hid (Rd w4 v4 (chaIn k n nonce)) := Lib.hid r4.rd
  have D4 : Hid (Below w.heap.size w w4) := Lib.hid (D3.out.trans (((Below.refl (w.heap.size + 1 + 1) _).grown g4 S3.out R3.out.ge).mono (by omega)))
  obtain ⟨st, hst⟩ : ∃ z, z = chaStart k n nonce := ⟨_, rfl⟩
  have OK : Hid (okW st) := Lib.hid (by rw [hst]; exact wLE_ok _)
  have OK2 := Lib.hid (dblN_ok OK.out 10)
  have HST := Lib.hid hst
  clear r4 g4 R3 N3 S3 D3 RN3 hst
  refine wrd_loop _ _ _ _ _ _ _ _ _ _ _ _ _ _ _ _ _ _ _ _ _ _ _ _ _ _ _ _ _ _ _ _ _ _ _ _ _ _ _ _ _ _ _ _ _ _ _ _ _ _ _ _ _ _ _ _ _ _ _ _ _ _ _ _ _ _ _ _ _ _ _ _ _ _ _ _ _ _ _ _ _ _ _ _ _ _ _ _ _ _ _ _ _ _ _ _ _ _ _ v4 (chaIn k n nonce) w4 HR4 (chaIn_length HKL.out HNL.out n) (Lib.hid ?_)
  intro u10 u29 u30 u31 u32 u33 u34 u35 u36 u37 u38 u39 u40 u41 u42 u43 u44 u45 u46 u47 u48 s v w5 os ov ap bl
  obtain ⟨gs, cs, rfl, _, _⟩ := own_form os.out (by omega)
  obtain ⟨G, cap, rfl, _, _⟩ := own_form ov.out (by omega)
  have hne : (Value.slice (some ⟨gs, 0, none⟩) 16 cs).ownBlock ≠ some G := fun e => ap.out gs rfl (by simpa [Value.ownBlock] using e.symm)
  have Q5s : Hid (Q4 w4.heap.size gs cs st w5) := Lib.hid (by rw [HST.out]; exact os.out)
  have Q5 : Hid (Q4 w4.heap.size G cap st w5) := Lib.hid (by rw [HST.out]; exact ov.out)
  have GL : Hid (w4.heap.size ≤ G) := Lib.hid (ov.out.lt G rfl).1
  clear os ov ap HR4
  go_wp2_with (fail)
  refine dbl_loop _ _ _ _ _ _ _ _ _ _ _ _ _ _ _ _ _ _ _ _ _ _ _ _ _ _ _ _ _ _ _ _ _ _ _ _ _ _ _ _ _ _ _ _ _ _ _ _ _ _ _ _ _ _ _ _ _ _ _ _ _ _ _ _ _ _ _ _ _ _ _ _ _ _ _ _ _ _ _ _ _ _ _ _ _ _ _ _ _ _ _ _ _ _ _ _ _ _ _ _ _ w4.heap.size G cap st w5 Q5 OK (Lib.hid ?_)
  intro u11 u12 u13 u49 u50 u51 u52 u53 u54 u55 u56 u57 u58 u59 u60 u61 u62 u63 u64 u65 u66 u67 u68 u69 u70 u71 u72 u73 u74 u75 u76 u77 u78 u79 u80 u81 u82 u83 u84 w6 h6 s6
  have Q6s : Hid (Q4 w4.heap.size gs cs st w6) := Lib.hid (own_sole Q5s.out s6.out hne)
  have D6 : Hid (Below w.heap.size w w6) := Lib.hid ((D4.out.trans (bl.out.mono D4.out.size)).trans (s6.out.below.mono (Nat.le_trans D4.out.size GL.out)))
  have h0 : Hid (OutS w6 gs G st (dblN st 10) (.slice none 0 0) 0 w6) := Lib.hid ⟨fun i hi => Q6s.out.cell OK.out hi, fun i hi => h6.out.cell OK2.out hi, (Q6s.out.lt gs rfl).2, (h6.out.lt G rfl).2, World.ownsRow_nil _ _ _ _, Below.refl _ _⟩
  clear Q5s Q5 Q6s h6 s6 hne bl
  go_wp2_with (fail)
  refine outq_loop _ _ _ _ _ _ _ _ _ _ _ _ _ _ _ _ _ _ _ _ _ _ _ _ _ _ _ _ _ _ _ _ _ _ _ _ _ _ _ _ _ _ _ _ _ _ _ _ _ _ _ _ _ _ _ _ _ _ _ _ _ _ _ _ _ _ _ _ _ _ _ _ _ _ _ _ _ _ _ _ _ _ _ _ _ _ _ _ _ _ _ _ _ _ _ _ _ _ _ gs cs G cap st (dblN st 10) w6 OK OK2 h0 (Lib.hid ?_)
  intro u15 u85 u86 u87 u88 u89 u90 u91 u92 u93 u94 u95 u96 u97 u98 u99 u100 u101 o w7 h7
  go_wp2_with (fail)
  go_ret
  refine ⟨o, rfl, ?_, D6.out.trans (h7.out.below.mono D6.out.size)⟩
  have h := own_mono h7.out.own D6.out.size
  rw [chaBlock_length, chaBlock, ← HST.out]
  exact h
end Go.Proofs.YtnpojhmcgohdlaaDoor
