/- DiskSafe: the walk, over contracts of the developers' disk. Premises: the contracts. -/
import Derived.Test.YtkgbfghlonennaaWDS
namespace Go.Proofs.Ytkgbfghlonennaa.diskSafe
open Go.RowKit

/-- Bytes read by an elder call are none of the disk's. -/
theorem old_apart {F : Nat → Prop} {u : Value} {n : Nat} (h1 : ∀ j, u.ownBlock = some j → n ≤ j) (h2 : ∀ k, F k → k < n) {m : Nat} (hm : ∀ j, u.ownBlock = some j → j < m) {F' : Nat → Prop} (hF : ∀ k, F' k → F k ∨ m ≤ k) : ∀ j, u.ownBlock = some j → ¬ F' j := fun j hj hf => by
  have := h1 j hj
  have h3 := hm j hj
  rcases hF j hf with h | h
  · have := h2 j h; omega
  · omega
theorem take_pad {b : List UInt8} : (pad128 b).take b.length = b := by simp [pad128]
set_option maxRecDepth 100000 in
set_option maxHeartbeats 8000000 in
theorem walkC (DC : DiskC) (v0 : Value) (L : List ActV) (va : Value) (a : List UInt8) (vb : Value) (b : List UInt8) (vf : Value) (fs : List UInt8) (w : World) (hL : Acts w v0 L) (ha : Rd w va a) (hb : Rd w vb b) (hf : Rd w vf fs) : Calls Try.prog 4 #[v0, va, vb, vf] w fun e w' => e = .returned (.bool true) ∧ Below w.heap.size w w' := by
  have HG := Lib.hid (great_any v0 L w hL)
  obtain ⟨A, c, rfl, _, _⟩ := hL.form
  obtain ⟨Aa, ca, rfl, ha1, ha2, _⟩ := ha.form
  obtain ⟨Ab, cb, rfl, hb1, hb2, _⟩ := hb.form
  obtain ⟨Af, cf, rfl, hf1, hf2, _⟩ := hf.form
  unfold maxLen at ha2 hb2 hf2
  have HL := Lib.hid hL
  have HA := Lib.hid ha
  have HB := Lib.hid hb
  have HF := Lib.hid hf
  have na : (a.length : Int) ≤ 9223372036854775807 := by omega
  have nb : (b.length : Int) ≤ 9223372036854775807 := by omega
  have nf : (fs.length : Int) ≤ 9223372036854775807 := by omega
  have AWK : Hid (∀ w0 : World, Calls Try.prog 8 #[] w0 fun e w' => e = .returned (.bool true) ∧ Below w0.heap.size w0 w') := Lib.hid (awakeD_any DC)
  clear hL ha hb hf ha1 ha2 hb1 hb2 hf1 hf2
  go_enter Try.func4, Try.ntmps4
  go_wp2_with (fail)
  refine HG.out.mono ?_
  rintro e w0 ⟨g, rfl, rfl, hgr⟩
  cases g with
  | true =>
    clear hgr
    go_wp2_with (fail)
    refine (AWK.out w0).mono ?_
    rintro e w1 ⟨rfl, hb1⟩
    have B1 := Lib.hid hb1
    clear hb1
    go_wp2_with (fail)
    go_ret
    exact ⟨rfl, B1.out⟩
  | false =>
    have HGR := Lib.hid (hgr rfl)
    clear hgr
    by_cases hla : 128 < a.length
    · have lI : (128 : Int) < a.length := by omega
      go_wp2_with (fail)
      refine (AWK.out w0).mono ?_
      rintro e w1 ⟨rfl, hb1⟩
      have B1 := Lib.hid hb1
      clear hb1
      go_wp2_with (fail)
      go_ret
      exact ⟨rfl, B1.out⟩
    have lI : ¬ (128 : Int) < a.length := by omega
    by_cases hlb : 128 < b.length
    · have lI2 : (128 : Int) < b.length := by omega
      go_wp2_with (fail)
      refine (AWK.out w0).mono ?_
      rintro e w1 ⟨rfl, hb1⟩
      have B1 := Lib.hid hb1
      clear hb1
      go_wp2_with (fail)
      go_ret
      exact ⟨rfl, B1.out⟩
    have lI2 : ¬ (128 : Int) < b.length := by omega
    by_cases hlf : 300 < fs.length
    · have lI3 : (300 : Int) < fs.length := by omega
      go_wp2_with (fail)
      refine (AWK.out w0).mono ?_
      rintro e w1 ⟨rfl, hb1⟩
      have B1 := Lib.hid hb1
      clear hb1
      go_wp2_with (fail)
      go_ret
      exact ⟨rfl, B1.out⟩
    have lI3 : ¬ (300 : Int) < fs.length := by omega
    have d1 : decide ((128 : Int) < a.length) = false := decide_eq_false lI
    have d2 : decide ((128 : Int) < b.length) = false := decide_eq_false lI2
    have d3 : decide ((300 : Int) < fs.length) = false := decide_eq_false lI3
    have HLA : Hid (a.length ≤ 128) := Lib.hid (by omega)
    have HLB : Hid (b.length ≤ 128) := Lib.hid (by omega)
    have HLF : Hid (fs.length ≤ 300) := Lib.hid (by omega)
    have FS := Lib.hid (first_safe a HLA.out)
    clear hla hlb hlf
    go_wp2_with (fail)
    refine (DC.new w0).mono ?_
    rintro e w1 ⟨p, rfl, ⟨F1, h1, f1⟩, b1⟩
    have BL1 := Lib.hid b1
    have H1 := Lib.hid h1
    have F1b := Lib.hid f1
    clear h1 f1 b1
    go_wp2_with (fail)
    refine (DC.write H1.out 7 _ a (by decide) (HA.out.below BL1.out) (Nat.le_trans HLA.out (by decide)) (by decide) (rd_apart HA.out F1b.out)).mono ?_
    rintro e w2 ⟨rfl, ⟨⟨F2, h2, f2⟩, c2⟩⟩
    rw [FS.out.1]
    have BL2 : Hid (Below w0.heap.size w0 w2) := Lib.hid (BL1.out.trans (c2.below F1b.out BL1.out.size))
    have F2b : Hid (∀ k, F2 k → w0.heap.size ≤ k) := Lib.hid fun k hk => (f2 k hk).elim (F1b.out k) fun h => Nat.le_trans BL1.out.size h
    have H2 := Lib.hid h2
    clear h2 f2 c2 H1 F1b BL1
    go_wp2_with (fail)
    refine (DC.sync H2.out FS.out.2.2.2.2).mono ?_
    rintro e w3 ⟨rfl, hl3⟩
    rw [FS.out.2.1]
    have hs3 := hl3.solo F2b.out BL2.out.size
    have SO3 := Lib.hid hs3.1
    have BL3 := Lib.hid (BL2.out.trans hs3.2)
    clear hl3 hs3 H2 F2b BL2
    go_wp2_with (fail)
    refine dsf_loop _ _ _ _ _ _ _ _ _ _ _ _ _ _ _ _ _ _ _ _ _ _ _ _ _ _ _ _ _ _ _ _ _ _ _ _ _ _ _ _ _ _ _ _ _ _ _ _ _ _ _ _ _ _ _ _ _ _ _ _ _ _ _ _ _ _ _ _ _ _ _ _ _ _ _ _ _ _ _ _ _ _ _ _ _ _ _ _ _ _ _ _ _ _ _ _ _ _ _ _ _ _ _ _ _ _ _ _ _ _ _ _ _ _ _ _ _ _ _ _ _ _ _ _ _ _ _ _ _ DC A c L (pad128 a) w0 w3 p HL HGR (Lib.hid ⟨0, _, rfl, Nat.zero_le _, Nat.zero_le _, FS.out.2.2.2.1, FS.out.2.2.1, SO3.out, BL3.out⟩) (Lib.hid ?_)
    intro u43 u44 u45 u46 u47 u48 u49 u50 u51 u52 u53 u54 u55 u56 u57 u58 u59 u60 u61 u62 u63 u64 u65 u66 u10 S w4 HOP HSF SO4 BL4
    clear SO3 BL3 FS HGR
    go_wp2_with (fail)
    obtain ⟨F4, h4, f4⟩ := SO4.out
    refine (DC.boot h4 _ fs (HF.out.below BL4.out) (Nat.le_trans HLF.out (by decide)) (rd_apart HF.out f4)).mono ?_
    rintro e w5 ⟨rfl, hl5⟩
    have hs5 := hl5.solo f4 BL4.out.size
    have SO5 := Lib.hid hs5.1
    have BL5 := Lib.hid (BL4.out.trans hs5.2)
    have SF5 : Hid (SafeAt (bootS S fs) 7 (pad128 a)) := Lib.hid (HSF.out.step 6 ⟨6, 0, fs⟩ (by show (0 : Int) ≠ ((7 : Nat) : Int); decide))
    have OP5 : Hid ((bootS S fs).ops < 1000000) := Lib.hid (by have := HOP.out; show S.ops < 1000000; omega)
    obtain ⟨S5, hS5⟩ : ∃ S5, S5 = bootS S fs := ⟨_, rfl⟩
    have HAV : Hid (S5.dead = false ∧ S5.fuse = 0) := Lib.hid (by rw [hS5]; exact boot_alive S fs)
    rw [← hS5] at SO5 SF5 OP5
    clear h4 f4 hl5 hs5 hS5 HSF HOP SO4 BL4
    go_wp2_with (fail)
    obtain ⟨F5, h5, f5⟩ := SO5.out
    have OK5 := Lib.hid (DC.good h5)
    have RD5 := Lib.hid (SF5.out.read OK5.out)
    refine (DC.read h5 7 (by decide)).mono ?_
    rintro e w6 ⟨x, rfl, hx, hxb, b6⟩
    have e7 : readS S5 7 = (pad128 a, 0) := RD5.out.1
    rw [e7] at hx ⊢
    have L5 := Lib.hid (DC.lt h5)
    have F5b := Lib.hid f5
    have H6 := Lib.hid (DC.other h5 (chg_none b6) fun _ _ h => h)
    have BL6 := Lib.hid (BL5.out.trans (b6.mono BL5.out.size))
    have HX := Lib.hid hx
    have HXB := Lib.hid hxb
    have hxl : (pad128 a).length = 128 := pad128_length HLA.out
    obtain ⟨Ax, cx, he, _, _, _⟩ := hx.form
    rw [hxl] at he
    subst he
    obtain ⟨i8, hi8, _, hs8, _⟩ := info_parts info_u8
    obtain ⟨As, cs, hs, hrs⟩ := hx.high 32 5 i8 Try.underlying32 hi8 hs8 a.length (by rw [hxl]; exact HLA.out)
    rw [take_pad] at hrs
    have HRS := Lib.hid hrs
    clear h5 f5 hx hxb b6 e7 hrs SO5 BL5
    go_wp2_with (fail)
    refine (same_any _ _ _ _ w6 HRS.out (HA.out.below BL6.out)).mono ?_
    rintro e w7 ⟨rfl, m, hw7⟩
    rw [decide_eq_true rfl]
    have C7 : Chg (fun _ => False) w6 w7 := by rw [hw7]; exact (Chg.refl _ _).drewN _ m
    have H7 := Lib.hid (DC.other H6.out C7 fun _ _ h => h)
    have BL7 : Hid (Below w0.heap.size w0 w7) := Lib.hid (by rw [hw7]; exact below_drewN BL6.out m)
    have HX7 : Hid (Rd w7 (.slice Ax 128 cx) (pad128 a)) := Lib.hid (by rw [hw7]; exact HX.out.drewN m)
    have Z7 : Hid (w7.heap.size = w6.heap.size) := Lib.hid (by rw [hw7]; rfl)
    have HXL : Hid (∀ j, (Value.slice Ax 128 cx).ownBlock = some j → w5.heap.size ≤ j ∧ j < w6.heap.size) := Lib.hid fun j hj => ⟨HXB.out j hj, by
      rcases HX.out with ⟨_, _, h, _⟩ | ⟨b', off, c', h, h2, _⟩
      · have := congrArg (fun v => match v with | Value.slice _ n _ => n | _ => 0) h
        simp at this
      · rw [h] at hj
        have e : b' = j := by simpa [Value.ownBlock] using hj
        omega⟩
    clear hw7 C7 hs HRS HX
    go_wp2_with (fail)
    refine (DC.write H7.out 7 _ b (by decide) (HB.out.below BL7.out) (Nat.le_trans HLB.out (by decide)) OP5.out (rd_apart HB.out F5b.out)).mono ?_
    rintro e w8 ⟨rfl, ⟨⟨F8, h8, f8⟩, c8⟩⟩
    rw [second_write HAV.out.1 HAV.out.2 HLB.out]
    have BL8 : Hid (Below w0.heap.size w0 w8) := Lib.hid (BL7.out.trans (c8.below F5b.out BL7.out.size))
    have F8b : Hid (∀ k, F8 k → w0.heap.size ≤ k) := Lib.hid fun k hk => (f8 k hk).elim (F5b.out k) fun h => Nat.le_trans BL7.out.size h
    have X8 : Hid (∀ j, (Value.slice Ax 128 cx).ownBlock = some j → ¬ F8 j) := Lib.hid (old_apart (fun j hj => (HXL.out j hj).1) L5.out (m := w7.heap.size) (fun j hj => by rw [Z7.out]; exact (HXL.out j hj).2) f8)
    have HX8 : Hid (Rd w8 (.slice Ax 128 cx) (pad128 a)) := Lib.hid (c8.rd HX7.out fun j hj hf => by have h1 := (HXL.out j hj).1; have h2 := L5.out j hf; omega)
    have H8 := Lib.hid h8
    clear h8 f8 c8 H7 BL7 HX7 H6 BL6
    go_wp2_with (fail)
    refine (DC.boot H8.out _ fs (HF.out.below BL8.out) (Nat.le_trans HLF.out (by decide)) (rd_apart HF.out F8b.out)).mono ?_
    rintro e w9 ⟨rfl, ⟨⟨F9, h9, f9⟩, c9⟩⟩
    have BL9 : Hid (Below w0.heap.size w0 w9) := Lib.hid (BL8.out.trans (c9.below F8b.out BL8.out.size))
    have HX9 : Hid (Rd w9 (.slice Ax 128 cx) (pad128 a)) := Lib.hid (c9.rd HX8.out X8.out)
    have H9 := Lib.hid h9
    have LR := Lib.hid (last_read SF5.out OK5.out HAV.out.1 HLB.out fs (DC.good h9))
    clear h9 f9 c9 H8 HX8 BL8 F8b X8
    go_wp2_with (fail)
    refine (DC.read H9.out 7 (by decide)).mono ?_
    rintro e w10 ⟨y, rfl, hy, _, b10⟩
    have BL10 := Lib.hid (BL9.out.trans (b10.mono BL9.out.size))
    have HX10 := Lib.hid (HX9.out.below b10)
    obtain ⟨ys, hys⟩ : ∃ ys, ys = (readS (bootS (writeS S5 7 b).1 fs) 7).1 := ⟨_, rfl⟩
    obtain ⟨q, hq⟩ : ∃ q, q = (readS (bootS (writeS S5 7 b).1 fs) 7).2 := ⟨_, rfl⟩
    have hlr := LR.out
    rw [← hys, ← hq] at hlr
    rw [← hys] at hy
    rw [← hq]
    have HY := Lib.hid hy
    clear hys hq b10 H9 BL9 HX9 LR
    rcases hlr with rfl | ⟨rfl, hlr⟩
    · clear hy
      go_wp2_with (fail)
      refine (AWK.out w10).mono ?_
      rintro e w11 ⟨rfl, b11⟩
      have BL11 := Lib.hid (BL10.out.trans (b11.mono BL10.out.size))
      clear b11
      go_wp2_with (fail)
      go_ret
      exact ⟨rfl, BL11.out⟩
    · have hyl : ys.length = 128 := by
        rcases hlr with h | h
        · rw [h]; exact pad128_length HLA.out
        · rw [h]; exact pad128_length HLB.out
      obtain ⟨Ay, cy, he, _, _, _⟩ := hy.form
      rw [hyl] at he
      subst he
      obtain ⟨At, ct, ht, hrt⟩ := hy.high 32 5 i8 Try.underlying32 hi8 hs8 b.length (by rw [hyl]; exact HLB.out)
      have HRT := Lib.hid hrt
      by_cases hyx : ys = pad128 a
      · clear hy hrt hlr
        go_wp2_with (fail)
        refine (same_any _ _ _ _ w10 HY.out HX10.out).mono ?_
        rintro e w11 ⟨rfl, m2, hw11⟩
        rw [decide_eq_true hyx]
        have BL11 : Hid (Below w0.heap.size w0 w11) := Lib.hid (by rw [hw11]; exact below_drewN BL10.out m2)
        clear hw11 hyx
        go_wp2_with (fail)
        refine (AWK.out w11).mono ?_
        rintro e w12 ⟨rfl, b12⟩
        have BL12 := Lib.hid (BL11.out.trans (b12.mono BL11.out.size))
        clear b12
        go_wp2_with (fail)
        go_ret
        exact ⟨rfl, BL12.out⟩
      · have hyb : ys.take b.length = b := by
          rcases hlr with h | h
          · exact absurd h hyx
          · rw [h, take_pad]
        have HYB := Lib.hid hyb
        clear hy hrt hlr hyb
        go_wp2_with (fail)
        refine (same_any _ _ _ _ w10 HY.out HX10.out).mono ?_
        rintro e w11 ⟨rfl, m2, hw11⟩
        rw [decide_eq_false hyx]
        have BL11 : Hid (Below w0.heap.size w0 w11) := Lib.hid (by rw [hw11]; exact below_drewN BL10.out m2)
        have HRT11 : Hid (Rd w11 (.slice At b.length ct) b) := Lib.hid (by
          have h := HRT.out.drewN m2
          rw [HYB.out] at h
          rw [hw11]
          exact h)
        clear hw11 hyx
        go_wp2_with (fail)
        refine (same_any _ _ _ _ w11 HRT11.out (HB.out.below BL11.out)).mono ?_
        rintro e w12 ⟨rfl, m3, hw12⟩
        rw [decide_eq_true rfl]
        have BL12 : Hid (Below w0.heap.size w0 w12) := Lib.hid (by rw [hw12]; exact below_drewN BL11.out m3)
        clear hw12
        go_wp2_with (fail)
        refine (AWK.out w12).mono ?_
        rintro e w13 ⟨rfl, b13⟩
        have BL13 := Lib.hid (BL12.out.trans (b13.mono BL12.out.size))
        clear b13
        go_wp2_with (fail)
        go_ret
        exact ⟨rfl, BL13.out⟩
end Go.Proofs.Ytkgbfghlonennaa.diskSafe
