/- The fifteenth reference's Chooses. Condition: at most 20 labels, at most 20 questions. -/
import Derived.Test.YtckgpocfcanokaaLbChs
namespace Go.Proofs.Ytckgpocfcanokaa
open Go.RowKit

theorem no_bytes : (⟨#[]⟩ : ByteArray).toList = [] := by rw [ByteArray.toList_eq]
set_option maxRecDepth 100000 in
set_option maxHeartbeats 4000000 in
theorem refChooses_any (m : ByteArray) (vq : Value) (qs : List Qu) (n : ByteArray) (vs : Value) (ls : List Qu) (w : World) (h1 : RsQu w vq qs) (h2 : RsLb w vs ls) (hn : ls.length ≤ 20 ∧ qs.length ≤ 20) :
    Calls Try.prog 14 #[.agg #[.string m, vq], .agg #[.string n, vs]] w fun e w' => e = .returned (.bool (choosesB ⟨m, qs⟩ ⟨n, ls⟩)) ∧ Below w.heap.size w w' := by
  obtain ⟨B, c2, rfl, _⟩ := h1.form
  obtain ⟨A, c, rfl, _⟩ := h2.form
  obtain ⟨W0, hW0⟩ : ∃ W : World, W = (w.alloc (.cells #[.string m, .slice B qs.length c2] 28)).alloc (.cells #[.string n, .slice A ls.length c] 24) := ⟨_, rfl⟩
  have D0 : Hid (Below w.heap.size w W0) := Lib.hid (by rw [hW0]; exact (((Below.refl _ _).alloc (Nat.le_refl _) _).alloc (by simp) _))
  have X1 : Hid (Blk W0 w.heap.size 28 [.string m, .slice B qs.length c2]) := Lib.hid (by rw [hW0]; exact (Blk.made w _ _).alloc _)
  have X2 : Hid (Blk W0 (w.heap.size + 1) 24 [.string n, .slice A ls.length c]) := Lib.hid (by
    have h := Blk.made (w.alloc (.cells #[.string m, .slice B qs.length c2] 28)) 24 [.string n, .slice A ls.length c]
    rw [World.size_alloc] at h
    rw [hW0]
    exact h)
  have R1 := Lib.hid (h1.below D0.out)
  have R2 := Lib.hid (h2.below D0.out)
  have p0 : W0.cell? ⟨w.heap.size, 0, none⟩ = some (.string m) := by rw [X1.out.cell]; rfl
  have q0 : W0.cell? ⟨w.heap.size + 1, 0, none⟩ = some (.string n) := by rw [X2.out.cell]; rfl
  have HX : Hid (W0 = (w.alloc (.cells #[.string m, .slice B qs.length c2] 28)).alloc (.cells #[.string n, .slice A ls.length c] 24)) := Lib.hid hW0
  have HN := Lib.hid hn
  clear h1 h2 hW0 hn
  obtain ⟨eM, heM⟩ : ∃ eM, (m.toList == (⟨#[]⟩ : ByteArray).toList) = eM := ⟨_, rfl⟩
  have neM : (m.toList != (⟨#[]⟩ : ByteArray).toList) = !eM := by rw [bne, heM]
  have heM2 : (m.toList == []) = eM := by rw [← heM, no_bytes]
  have neM2 : (m.toList != []) = !eM := by rw [bne, heM2]
  obtain ⟨eN, heN⟩ : ∃ eN, (m.toList == n.toList) = eN := ⟨_, rfl⟩
  have neN : (m.toList != n.toList) = !eN := by rw [bne, heN]
  have HCH : Hid (choosesB ⟨m, qs⟩ ⟨n, ls⟩ = ((eM || eN) && qs.all (saysB ls))) := Lib.hid (by
    unfold choosesB
    rw [dec_beq, dec_beq, heM2, heN])
  rw [HCH.out]
  cases eM with
  | true =>
    go_enter Try.func14, Try.ntmps14
    go_upto_region 1 with (fail)
    rw [← HX.out]
    clear HX
    go_wp2_with (fail)
    refine lco_loop _ _ _ _ _ _ _ _ _ _ _ _ _ _ _ _ _ _ _ _ _ _ _ _ _ _ _ _ _ _ _ _ _ _ _ _ _ _ _ _ _ _ _ _ _ _ _ _ _ _ _ _ _ _ _ _ _ _ _ _ _ _ _ _ _ _ _ _ _ _ _ _ _ _ _ _ _ _ _ _ _ _ _ _ _ _ _ _ _ _ _ _ _ _ _ _ _ _ _ _ _ _ _ _ _ _ _ _ _ _ A B c c2 (w.heap.size + 1) w.heap.size n m ls qs W0 X2 X1 R2 R1 HN (Lib.hid ?_) (Lib.hid ?_)
    · intro u4 u6 u7 u8 u9 u10 u21 u22 u23 u24 u25 u26 u27 u28 u29 u30 u31 u32 u33 u34 u35 u36 u37 u38 u39 u40 u41 u42 u43 u44 u45 u46 u47 u48 u49 u50 u51 u52 u53 u54 u55 u56 u57 u58 u59 u60 u61 u62 u63 u64 u65 u66 u67 u68 u69 u70 u71 u72 u73 u74 u75 u76 u77 u78 u79 u80 u81 u82 u83 u84 u85 u86 u87 u88 u89 u90 u91 u92 u93 u94 u95 u96 u97 u98 u99 u100 u101 u102 u103 u104 u105 u106 u107 u108 u109 u110 u111 u112 y w1 HF HB
      go_wp2_with (fail)
      go_ret
      rw [HF.out]
      exact ⟨rfl, D0.out.trans (HB.out.mono D0.out.size)⟩
    · intro u6 u7 u8 u9 u10 u21 u22 u23 u24 u25 u26 u27 u28 u29 u30 u31 u32 u33 u34 u35 u36 u37 u38 u39 u40 u41 u42 u43 u44 u45 u46 u47 u48 u49 u50 u51 u52 u53 u54 u55 u56 u57 u58 u59 u60 u61 u62 u63 u64 u65 u66 u67 u68 u69 u70 u71 u72 u73 u74 u75 u76 u77 u78 u79 u80 u81 u82 u83 u84 u85 u86 u87 u88 u89 u90 u91 u92 u93 u94 u95 u96 u97 u98 u99 u100 u101 u102 u103 u104 u105 u106 u107 u108 u109 u110 u111 u112 y w1 HF HB
      go_ret
      rw [HF.out]
      exact ⟨rfl, D0.out.trans (HB.out.mono D0.out.size)⟩
  | false =>
    cases eN with
    | true =>
      go_enter Try.func14, Try.ntmps14
      go_upto_region 1 with (fail)
      rw [← HX.out]
      clear HX
      go_wp2_with (fail)
      refine lco_loop _ _ _ _ _ _ _ _ _ _ _ _ _ _ _ _ _ _ _ _ _ _ _ _ _ _ _ _ _ _ _ _ _ _ _ _ _ _ _ _ _ _ _ _ _ _ _ _ _ _ _ _ _ _ _ _ _ _ _ _ _ _ _ _ _ _ _ _ _ _ _ _ _ _ _ _ _ _ _ _ _ _ _ _ _ _ _ _ _ _ _ _ _ _ _ _ _ _ _ _ _ _ _ _ _ _ _ _ _ _ A B c c2 (w.heap.size + 1) w.heap.size n m ls qs W0 X2 X1 R2 R1 HN (Lib.hid ?_) (Lib.hid ?_)
      · intro u4 u6 u7 u8 u9 u10 u21 u22 u23 u24 u25 u26 u27 u28 u29 u30 u31 u32 u33 u34 u35 u36 u37 u38 u39 u40 u41 u42 u43 u44 u45 u46 u47 u48 u49 u50 u51 u52 u53 u54 u55 u56 u57 u58 u59 u60 u61 u62 u63 u64 u65 u66 u67 u68 u69 u70 u71 u72 u73 u74 u75 u76 u77 u78 u79 u80 u81 u82 u83 u84 u85 u86 u87 u88 u89 u90 u91 u92 u93 u94 u95 u96 u97 u98 u99 u100 u101 u102 u103 u104 u105 u106 u107 u108 u109 u110 u111 u112 y w1 HF HB
        go_wp2_with (fail)
        go_ret
        rw [HF.out]
        exact ⟨rfl, D0.out.trans (HB.out.mono D0.out.size)⟩
      · intro u6 u7 u8 u9 u10 u21 u22 u23 u24 u25 u26 u27 u28 u29 u30 u31 u32 u33 u34 u35 u36 u37 u38 u39 u40 u41 u42 u43 u44 u45 u46 u47 u48 u49 u50 u51 u52 u53 u54 u55 u56 u57 u58 u59 u60 u61 u62 u63 u64 u65 u66 u67 u68 u69 u70 u71 u72 u73 u74 u75 u76 u77 u78 u79 u80 u81 u82 u83 u84 u85 u86 u87 u88 u89 u90 u91 u92 u93 u94 u95 u96 u97 u98 u99 u100 u101 u102 u103 u104 u105 u106 u107 u108 u109 u110 u111 u112 y w1 HF HB
        go_ret
        rw [HF.out]
        exact ⟨rfl, D0.out.trans (HB.out.mono D0.out.size)⟩
    | false =>
      go_enter Try.func14, Try.ntmps14
      go_upto_region 1 with (fail)
      rw [← HX.out]
      clear HX
      go_wp2_with (fail)
      go_ret
      exact ⟨rfl, D0.out⟩
end Go.Proofs.Ytckgpocfcanokaa
