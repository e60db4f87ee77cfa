/- The developers' reader of questions: its three words (a word, a mark, a sign), off the text that is left. Condition: the text may be. -/
import Derived.Test.YtckgpocfcanokaaLkStr
import Derived.Test.YtckgpocfcanokaaLkRead
import Derived.Test.YtckgpocfcanokaaSrow
import Derived.Deep.RegionHeld3
import Derived.Deep.Cut
namespace Go.Proofs.Ytckgpocfcanokaa
open Go.RowKit

/-- The text that is left, and whether all was good, in their variables' blocks. -/
structure QV (w0 w : World) (X Z : Nat) (b : ByteArray) (g : Bool) : Prop where
  left : Blk w X 9 [.string b]
  good : Blk w Z 4 [.bool g]
  low : Below w0.heap.size w0 w
  ge : w0.heap.size ≤ X ∧ w0.heap.size ≤ Z ∧ X ≠ Z
theorem QV.drewN {w0 w : World} {X Z : Nat} {b : ByteArray} {g : Bool} (h : QV w0 w X Z b g) (n : Nat) : QV w0 (w.drewN n) X Z b g := ⟨h.left.drewN n, h.good.drewN n, below_drewN h.low n, h.ge⟩
theorem QV.chg {w0 w w' : World} {X Z : Nat} {b : ByteArray} {g : Bool} (h : QV w0 w X Z b g) {F : Nat → Prop} (hc : Chg F w w') (hF : ∀ k, F k → w0.heap.size ≤ k) (hX : ¬ F X) (hZ : ¬ F Z) : QV w0 w' X Z b g :=
  ⟨hc.blk h.left hX, hc.blk h.good hZ, h.low.trans (hc.below hF h.low.size), h.ge⟩
theorem QV.setX {w0 w : World} {X Z : Nat} {b : ByteArray} {g : Bool} (h : QV w0 w X Z b g) (b' : ByteArray) : QV w0 (w.setCell ⟨X, 0, none⟩ (.string b')) X Z b' g :=
  ⟨h.left.set 0 _, h.good.other (p := ⟨X, 0, none⟩) (Ne.symm h.ge.2.2) _, h.low.setCell (p := ⟨X, 0, none⟩) h.ge.1 _, h.ge⟩
theorem QV.setZ {w0 w : World} {X Z : Nat} {b : ByteArray} {g : Bool} (h : QV w0 w X Z b g) (g' : Bool) : QV w0 (w.setCell ⟨Z, 0, none⟩ (.bool g')) X Z b g' :=
  ⟨h.left.other (p := ⟨Z, 0, none⟩) h.ge.2.2 _, h.good.set 0 _, h.low.setCell (p := ⟨Z, 0, none⟩) h.ge.2.1 _, h.ge⟩
theorem chgX (X Z : Nat) (w : World) (v : Value) : Chg (fun k => k = X ∨ k = Z) w (w.setCell ⟨X, 0, none⟩ v) := Chg.setCell _ w X 0 v (.inl rfl)
theorem chgXZ (X Z : Nat) (w : World) (u v : Value) : Chg (fun k => k = X ∨ k = Z) w ((w.setCell ⟨X, 0, none⟩ v).setCell ⟨Z, 0, none⟩ u) :=
  (chgX X Z w v).trans ((Chg.setCell (fun k => k = X ∨ k = Z) _ Z 0 u (.inr rfl)).mono fun _k h => .inl h)
/-- What is behind a word. -/
theorem bh_at (b x : ByteArray) (hx : x.toList = wdB b.toList) : x.size ≤ b.size ∧ (b.extract x.size b.size).toList = bhB b.toList := by
  have h1 := wd_bh b.toList
  have h2 := congrArg List.length h1
  rw [List.length_append, ← hx, bl_size, bl_size] at h2
  refine ⟨by omega, ?_⟩
  rw [ex_toList]
  conv => lhs; rw [← h1, ← hx]
  rw [← bl_size x, List.drop_left, List.take_of_length_le (by rw [bl_size]; omega)]
set_option maxRecDepth 100000 in
set_option maxHeartbeats 1000000 in
/-- A word is read. -/
theorem qword_any (w0 w : World) (X Z : Nat) (b : ByteArray) (g : Bool) (h : QV w0 w X Z b g) (hm : b.size ≤ maxLen) :
    Calls Try.prog 35 #[.pointer (some ⟨X, 0, none⟩), .pointer (some ⟨Z, 0, none⟩)] w fun e w' => ∃ x b' : ByteArray, e = .returned (.string x) ∧ x.toList = wdB b.toList ∧ b'.toList = bhB b.toList ∧ b'.size ≤ b.size ∧ x.size ≤ b.size ∧ QV w0 w' X Z b' (g && wordB (wdB b.toList)) ∧ Chg (fun k => k = X ∨ k = Z) w w' := by
  have HC := Lib.hid (wordAt_any b w hm)
  have HV := Lib.hid h
  have HM := Lib.hid hm
  have c0 : w.cell? ⟨X, 0, none⟩ = some (.string b) := h.left.cell 0
  have f0 : w.frozen? ⟨X, 0, none⟩ = false := h.left.free 0
  clear h hm
  go_enter Try.func35, Try.ntmps35
  go_wp2_with (fail)
  refine HC.out.mono ?_
  rintro e w1 ⟨x, rfl, hx, hw1⟩
  replace hw1 := hw1.symm
  subst hw1
  obtain ⟨hle, hbh⟩ := bh_at b x hx
  have xI : (x.size : Int) ≤ b.size := by omega
  have HX := Lib.hid hx
  have HB := Lib.hid hbh
  have HLE := Lib.hid hle
  clear hx hbh hle
  go_upto_region 3 with (fail)
  obtain ⟨b', hb'⟩ : ∃ y, y = b.extract x.size b.size := ⟨_, rfl⟩
  have HBS : Hid (b'.size ≤ b.size) := Lib.hid (by rw [hb', ByteArray.size_extract]; omega)
  rw [← hb'] at HB ⊢
  have HV1 : Hid (QV w0 (w.setCell ⟨X, 0, none⟩ (.string b')) X Z b' g) := Lib.hid (HV.out.setX b')
  have HCH : Hid (Chg (fun k => k = X ∨ k = Z) w (w.setCell ⟨X, 0, none⟩ (.string b'))) := Lib.hid (chgX X Z w _)
  have HCZ : Hid (∀ u, Chg (fun k => k = X ∨ k = Z) w ((w.setCell ⟨X, 0, none⟩ (.string b')).setCell ⟨Z, 0, none⟩ u)) := Lib.hid fun u => chgXZ X Z w u _
  obtain ⟨W1, hW1⟩ : ∃ V, V = w.setCell ⟨X, 0, none⟩ (.string b') := ⟨_, rfl⟩
  rw [← hW1] at HV1 HCH HCZ ⊢
  have HWD : Hid (wordB x.toList = wordB (wdB b.toList)) := Lib.hid (by rw [HX.out]; rfl)
  have HXM : Hid (x.size ≤ maxLen) := Lib.hid (Nat.le_trans HLE.out HM.out)
  have HI := Lib.hid (isWord_any x W1 HXM.out)
  rw [HWD.out] at HI
  clear hb' hW1 c0 f0
  have c1 : W1.cell? ⟨Z, 0, none⟩ = some (.bool g) := HV1.out.good.cell 0
  have f1 : W1.frozen? ⟨Z, 0, none⟩ = false := HV1.out.good.free 0
  obtain ⟨k, hk⟩ : ∃ k, k = wordB (wdB b.toList) := ⟨_, rfl⟩
  have HKK : Hid (wordB (wdB b.toList) = k) := Lib.hid hk.symm
  rw [← hk] at HI
  clear hk HWD
  cases g with
  | false =>
    go_wp2_with (fail)
    go_ret
    exact ⟨x, b', rfl, HX.out, HB.out, HBS.out, HLE.out, HV1.out.setZ false, HCZ.out _⟩
  | true =>
    go_wp2_with (fail)
    refine HI.out.mono ?_
    rintro e w2 ⟨rfl, hw2⟩
    replace hw2 := hw2.symm
    subst hw2
    go_wp2_with (fail)
    go_ret
    exact ⟨x, b', rfl, HX.out, HB.out, HBS.out, HLE.out, by rw [HKK.out, Bool.true_and]; exact HV1.out.setZ k, HCZ.out _⟩
set_option maxRecDepth 100000 in
set_option maxHeartbeats 1000000 in
/-- A mark is skipped, if it is there. -/
theorem qskip_any (w0 w : World) (X Z : Nat) (b : ByteArray) (g : Bool) (p : ByteArray) (h : QV w0 w X Z b g) :
    Calls Try.prog 36 #[.string p, .pointer (some ⟨X, 0, none⟩)] w fun e w' => e = .returned (.bool (preB p b)) ∧ QV w0 w' X Z (cutS b p) g ∧ Chg (fun k => k = X ∨ k = Z) w w' := by
  have HC := Lib.hid (cutPre_any b p w)
  have HV := Lib.hid h
  have c0 : w.cell? ⟨X, 0, none⟩ = some (.string b) := h.left.cell 0
  have f0 : w.frozen? ⟨X, 0, none⟩ = false := h.left.free 0
  clear h
  obtain ⟨k, hk⟩ : ∃ k, k = preB p b := ⟨_, rfl⟩
  obtain ⟨b', hb'⟩ : ∃ k, k = cutS b p := ⟨_, rfl⟩
  rw [← hk, ← hb'] at HC ⊢
  clear hk hb'
  go_enter Try.func36, Try.ntmps36
  go_wp2_with (fail)
  refine HC.out.mono ?_
  rintro e w1 ⟨rfl, hw1⟩
  replace hw1 := hw1.symm
  subst hw1
  go_wp2_with (fail)
  go_ret
  exact ⟨rfl, HV.out.setX b', chgX X Z w _⟩
theorem sgT_pre {g : Int} (hg : g = 0 ∨ g = 1 ∨ g = 2) (b : ByteArray) : preB (sgT g) b = (sgB g).isPrefixOf b.toList := by
  unfold preB
  rcases hg with rfl | rfl | rfl <;> (congr 1; rw [ByteArray.toList_eq]; rfl)
theorem sgR_not {l : List UInt8} (h0 : (sgB 0).isPrefixOf l = false) (h1 : (sgB 1).isPrefixOf l = false) (h2 : (sgB 2).isPrefixOf l = false) : sgR l = none := by
  unfold sgR
  rw [show ([61] : List UInt8).isPrefixOf l = false from h0, show ([33, 61] : List UInt8).isPrefixOf l = false from h1, show ([94, 61] : List UInt8).isPrefixOf l = false from h2]
  rfl
theorem sgR_cut {g : Int} (hg : g = 0 ∨ g = 1 ∨ g = 2) {b : ByteArray} (h : preB (sgT g) b = true) : sgR b.toList = some (g, (cutS b (sgT g)).toList) := by
  have h1 := cutS_yes h
  have h2 : (sgT g).toList = sgB g := by rcases hg with rfl | rfl | rfl <;> (rw [ByteArray.toList_eq]; rfl)
  rw [h2] at h1
  rw [h1]
  exact sgR_of hg _
set_option maxRecDepth 100000 in
set_option maxHeartbeats 2000000 in
/-- A sign is read. -/
theorem qsign_any (w0 w : World) (X Z S : Nat) (b : ByteArray) (g : Bool) (h : QV w0 w X Z b g) (hS : Blk w S 44 [(.func (.func 36) #[] #[.pointer (some ⟨X, 0, none⟩)])]) (hSX : S ≠ X) (hSZ : S ≠ Z) :
    Calls Try.prog 37 #[.pointer (some ⟨S, 0, none⟩), .pointer (some ⟨Z, 0, none⟩)] w fun e w' => ∃ (n : Int) (b' : ByteArray) (k : Bool), e = .returned (.int .i64 n) ∧ (k = true → sgR b.toList = some (n, b'.toList)) ∧ (k = false → sgR b.toList = none ∧ b' = b ∧ n = 0) ∧ b'.size ≤ b.size ∧ QV w0 w' X Z b' (g && k) ∧ Chg (fun k => k = X ∨ k = Z) w w' := by
  have HSX : Hid (¬ (S = X ∨ S = Z)) := Lib.hid fun e => e.elim hSX hSZ
  have H0 := Lib.hid h
  have HB := Lib.hid hS
  clear h hS hSX hSZ
  go_enter Try.func37, Try.ntmps37
  go_wp2_with (fail)
  go_loopw [4] (fun i wr => ∃ j : Nat, i = .int .i64 (j : Int) ∧ j ≤ 3 ∧ (∀ i : Nat, i < j → (sgB i).isPrefixOf b.toList = false) ∧ QV w0 wr X Z b g ∧ Blk wr S 44 [(.func (.func 36) #[] #[.pointer (some ⟨X, 0, none⟩)])] ∧ Chg (fun k => k = X ∨ k = Z) w wr) (fun i _ => 3 - (intOf i).toNat)
  case atStart => exact ⟨0, rfl, by omega, fun i h => by omega, H0.out, HB.out, Chg.refl _ w⟩
  case round =>
    obtain ⟨j, rfl, hj, hno, hq, hs, hc⟩ := hrel
    have HNO := Lib.hid hno
    have HQ := Lib.hid hq
    have HSB := Lib.hid hs
    have HCH := Lib.hid hc
    clear hno hq hs hc
    by_cases hlt : j < 3
    · have jI : (j : Int) < 3 := by omega
      have hg : (j : Int) = 0 ∨ (j : Int) = 1 ∨ (j : Int) = 2 := by omega
      have HG := Lib.hid hg
      obtain ⟨p, hp⟩ : ∃ p, p = sgT (j : Int) := ⟨_, rfl⟩
      have HP := Lib.hid hp
      have HT : Hid (∀ W, Calls Try.prog 26 #[.int .i64 (j : Int)] W fun e w' => e = .returned (.string p) ∧ w' = W) := Lib.hid fun W => by rw [hp]; exact textOf_any (j : Int) W
      have HK : Hid (∀ W, QV w0 W X Z b g → Calls Try.prog 36 #[.string p, .pointer (some ⟨X, 0, none⟩)] W fun e w' => e = .returned (.bool (preB p b)) ∧ QV w0 w' X Z (cutS b p) g ∧ Chg (fun k => k = X ∨ k = Z) W w') := Lib.hid fun W hW => qskip_any w0 W X Z b g p hW
      have hpre : preB p b = (sgB (j : Int)).isPrefixOf b.toList := by rw [hp]; exact sgT_pre hg b
      have HV0 : Hid (QV w0 wr.drew X Z b g) := Lib.hid (HQ.out.drewN 1)
      have HS0 : Hid (Blk wr.drew S 44 [(.func (.func 36) #[] #[.pointer (some ⟨X, 0, none⟩)])]) := Lib.hid HSB.out.drew
      have HC0 : Hid (∀ W, Chg (fun k => k = X ∨ k = Z) wr.drew W → Chg (fun k => k = X ∨ k = Z) w W) := Lib.hid fun W h => (HCH.out.drewN _ 1).trans (h.mono fun _k e => .inl e)
      obtain ⟨kk, hkk⟩ : ∃ k, k = preB p b := ⟨_, rfl⟩
      have HKK := Lib.hid hkk
      have HPRE : Hid (kk = (sgB (j : Int)).isPrefixOf b.toList) := Lib.hid (hkk.trans hpre)
      rw [← hkk] at HK
      obtain ⟨cb, hcb⟩ : ∃ k, k = cutS b p := ⟨_, rfl⟩
      have HCB := Lib.hid hcb
      rw [← hcb] at HK
      have HSG : Hid (kk = true → sgR b.toList = some ((j : Int), cb.toList)) := Lib.hid fun h => by
        rw [hcb, hp]
        exact sgR_cut hg (by rw [← hp, ← hkk]; exact h)
      have HNC : Hid (kk = false → cb = b) := Lib.hid fun h => by
        rw [hcb]
        exact cutS_no (by rw [← hkk]; exact h)
      have HCS : Hid (cb.size ≤ b.size) := Lib.hid (by rw [hcb]; exact cutS_size _ _)
      clear hpre hkk hcb hp hg hj
      cases kk with
      | true =>
        go_wp2_with (fail)
        refine wp_region_noPanic ?_
        refine wp_region_held_drew (S := fun V => V.cell? ⟨S, 0, none⟩ = some ((.func (.func 36) #[] #[.pointer (some ⟨X, 0, none⟩)]))) (by kernel_rfl) ?_ (fun hHeld => ?_)
        · (first | assumption | exact HS0.out.cell 0 | exact HS2.out.cell 0)
        refine take_put (i := 0) (oi := _) (v := ?_) 7 rfl rfl (by kernel_rfl) (by kernel_rfl) (by kernel_rfl) (fun _ _ _ h => h) (Or.inl ⟨by rfl, ?hy0⟩) (by assumption) ?_
        case hy0 => ((intro W hSw); (try dsimp only at hSw); go_simp; try (with_reducible rfl))
        simp only [List.set_cons_zero, List.set_cons_succ]
        refine take_put (i := 1) (oi := _) (v := ?_) 8 rfl rfl (by kernel_rfl) (by kernel_rfl) (by kernel_rfl) (fun _ _ _ h => h) (Or.inl ⟨by rfl, ?hy1⟩) (by assumption) ?_
        case hy1 => ((intro W hSw); (try dsimp only at hSw); go_simp; try (with_reducible rfl))
        simp only [List.set_cons_zero, List.set_cons_succ]
        refine wpAnyH_ready (rs := [2]) (by kernel_rfl) (by simp) ?_
        refine AllReadyH.cons (o := _) rfl (fun K hK => ?_) AllReadyH.nil
        go_simp
        (go_at_call 26; refine (HT.out _).mono ?_; rintro e v1 ⟨rfl, s1⟩; replace s1 := s1.symm; subst s1)
        refine hK.out _ _ ?_ (fun hHeld => ?_)
        · (first | assumption | exact HS0.out.cell 0 | exact HS2.out.cell 0)
        clear hK K
        try simp only [Act.put, List.setIfInBounds_toArray, List.set_cons_zero, List.set_cons_succ]
        refine wpAnyH_ready (rs := [3]) (by kernel_rfl) (by simp) ?_
        refine AllReadyH.cons (o := _) rfl (fun K hK => ?_) AllReadyH.nil
        go_simp
        (go_at_call 36; refine (HK.out _ (HV0.out)).mono ?_; rintro e v2 ⟨rfl, q2, k2⟩; (have HS2 : Hid (Blk v2 S 44 [(.func (.func 36) #[] #[.pointer (some ⟨X, 0, none⟩)])]) := Lib.hid (k2.blk HS0.out HSX.out)); replace q2 := Lib.hid q2; replace k2 := Lib.hid k2)
        refine hK.out _ _ ?_ (fun hHeld => ?_)
        · (first | assumption | exact HS0.out.cell 0 | exact HS2.out.cell 0)
        clear hK K
        try simp only [Act.put, List.setIfInBounds_toArray, List.set_cons_zero, List.set_cons_succ]
        refine wpAnyH_done (by kernel_rfl) ?_ _
        refine NoPanic.normal ?_
        go_wp2_with (fail)
        go_ret
        exact ⟨(j : Int), cb, true, rfl, fun _ => HSG.out trivial, fun h => (Bool.false_ne_true h.symm).elim, HCS.out, by rw [Bool.and_true]; exact q2.out, HC0.out _ k2.out⟩
      | false =>
        go_wp2_with (fail)
        refine wp_region_noPanic ?_
        refine wp_region_held_drew (S := fun V => V.cell? ⟨S, 0, none⟩ = some ((.func (.func 36) #[] #[.pointer (some ⟨X, 0, none⟩)]))) (by kernel_rfl) ?_ (fun hHeld => ?_)
        · (first | assumption | exact HS0.out.cell 0 | exact HS2.out.cell 0)
        refine take_put (i := 0) (oi := _) (v := ?_) 7 rfl rfl (by kernel_rfl) (by kernel_rfl) (by kernel_rfl) (fun _ _ _ h => h) (Or.inl ⟨by rfl, ?hy0⟩) (by assumption) ?_
        case hy0 => ((intro W hSw); (try dsimp only at hSw); go_simp; try (with_reducible rfl))
        simp only [List.set_cons_zero, List.set_cons_succ]
        refine take_put (i := 1) (oi := _) (v := ?_) 8 rfl rfl (by kernel_rfl) (by kernel_rfl) (by kernel_rfl) (fun _ _ _ h => h) (Or.inl ⟨by rfl, ?hy1⟩) (by assumption) ?_
        case hy1 => ((intro W hSw); (try dsimp only at hSw); go_simp; try (with_reducible rfl))
        simp only [List.set_cons_zero, List.set_cons_succ]
        refine wpAnyH_ready (rs := [2]) (by kernel_rfl) (by simp) ?_
        refine AllReadyH.cons (o := _) rfl (fun K hK => ?_) AllReadyH.nil
        go_simp
        (go_at_call 26; refine (HT.out _).mono ?_; rintro e v1 ⟨rfl, s1⟩; replace s1 := s1.symm; subst s1)
        refine hK.out _ _ ?_ (fun hHeld => ?_)
        · (first | assumption | exact HS0.out.cell 0 | exact HS2.out.cell 0)
        clear hK K
        try simp only [Act.put, List.setIfInBounds_toArray, List.set_cons_zero, List.set_cons_succ]
        refine wpAnyH_ready (rs := [3]) (by kernel_rfl) (by simp) ?_
        refine AllReadyH.cons (o := _) rfl (fun K hK => ?_) AllReadyH.nil
        go_simp
        (go_at_call 36; refine (HK.out _ (HV0.out)).mono ?_; rintro e v2 ⟨rfl, q2, k2⟩; (have HS2 : Hid (Blk v2 S 44 [(.func (.func 36) #[] #[.pointer (some ⟨X, 0, none⟩)])]) := Lib.hid (k2.blk HS0.out HSX.out)); replace q2 := Lib.hid q2; replace k2 := Lib.hid k2)
        refine hK.out _ _ ?_ (fun hHeld => ?_)
        · (first | assumption | exact HS0.out.cell 0 | exact HS2.out.cell 0)
        clear hK K
        try simp only [Act.put, List.setIfInBounds_toArray, List.set_cons_zero, List.set_cons_succ]
        refine wpAnyH_done (by kernel_rfl) ?_ _
        refine NoPanic.normal ?_
        go_wp2_with (fail)
        have e := HNC.out trivial
        subst e
        refine ⟨⟨j + 1, by go_num, hlt, fun i hi => ?_, q2.out, HS2.out, HC0.out _ k2.out⟩, by simp [intOf]; omega⟩
        by_cases e : i = j
        · rw [e]; exact HPRE.out.symm
        · exact HNO.out i (by omega)
    · have e : j = 3 := by omega
      have HNN : Hid (sgR b.toList = none) := Lib.hid (sgR_not (HNO.out 0 (by omega)) (HNO.out 1 (by omega)) (HNO.out 2 (by omega)))
      subst e
      clear hlt hj HNO
      have c1 : wr.cell? ⟨Z, 0, none⟩ = some (.bool g) := HQ.out.good.cell 0
      have f1 : wr.frozen? ⟨Z, 0, none⟩ = false := HQ.out.good.free 0
      go_wp2_with (fail)
      go_ret
      exact ⟨0, b, false, rfl, fun h => (Bool.false_ne_true h).elim, fun _ => ⟨HNN.out, rfl, rfl⟩, Nat.le_refl _, by rw [Bool.and_false]; exact HQ.out.setZ false, HCH.out.trans (Chg.setCell _ _ Z 0 _ (.inl (.inr rfl)))⟩
end Go.Proofs.Ytckgpocfcanokaa
