/- The contract of the developers' weight: by what the values at a place are multiplied. Conditions: shares of 33 bytes, at most 1000, of unlike places. -/
import Derived.Test.YtpegnafapjcanaaKPlaces
import Derived.Test.YtpegnafapjcanaaFieldK
namespace Go.Proofs.Ytpegnafapjcanaa
open Go.RowKit

theorem gi_mul {a b : UInt8} (ha : a ≠ 0) (hb : b ≠ 0) : gi (gm a b) = gm (gi a) (gi b) := by
  have h0 : gm a b ≠ 0 := fun h => (gm_none h).elim ha hb
  have e : gm (gm a b) (gm (gi a) (gi b)) = 1 := by
    have e1 : gm (gm a b) (gm (gi a) (gi b)) = gm (gm a (gi a)) (gm b (gi b)) := by
      rw [gm_assoc, gm_assoc, ← gm_assoc b, ← gm_assoc (gi a) b, gm_comm b (gi a)]
    rw [e1, gm_gi ha, gm_gi hb, gm_one]
  have h := gm_back h0 (gm (gi a) (gi b))
  rw [e, gm_one] at h
  exact h
/-- The weight as it is reckoned: quotients, one behind the other. -/
def wP (X : Nat → UInt8) (i : Nat) : Nat → UInt8
  | 0 => 1
  | k + 1 => if k = i then wP X i k else gm (wP X i k) (gm (X k) (gi (X k ^^^ X i)))
theorem wP_eq (X : Nat → UInt8) (i : Nat) : ∀ m, (∀ k, k < m → k ≠ i → X k ≠ X i) → wP X i m = wgt X i m
  | 0, _ => by
    show (1 : UInt8) = gm (prodE X i 0) (gi (prodE _ i 0))
    show (1 : UInt8) = gm 1 (gi 1)
    exact (gm_gi (by decide)).symm
  | m + 1, h => by
    have ih := wP_eq X i m fun k hk => h k (by omega)
    by_cases e : m = i
    · have e1 : wP X i (m + 1) = wP X i m := by show (if m = i then _ else _) = _; rw [if_pos e]
      have e2 : upN X i (m + 1) = upN X i m := by show (if m = i then _ else _) = _; rw [if_pos e]; rfl
      have e3 : downN X i (m + 1) = downN X i m := by show (if m = i then _ else _) = _; rw [if_pos e]; rfl
      unfold wgt
      rw [e1, e2, e3, ih]
      rfl
    · have e1 : wP X i (m + 1) = gm (wP X i m) (gm (X m) (gi (X m ^^^ X i))) := by show (if m = i then _ else _) = _; rw [if_neg e]
      have e2 : upN X i (m + 1) = gm (upN X i m) (X m) := by show (if m = i then _ else _) = _; rw [if_neg e]; rfl
      have e3 : downN X i (m + 1) = gm (downN X i m) (X m ^^^ X i) := by show (if m = i then _ else _) = _; rw [if_neg e]; rfl
      have hd : downN X i m ≠ 0 := prodE_ne i m fun k hk hki h0 => h k (by omega) hki (bx_eq h0)
      have hx : X m ^^^ X i ≠ 0 := fun h0 => h m (by omega) e (bx_eq h0)
      rw [e1, ih]
      unfold wgt
      rw [e2, e3, gi_mul hd hx, gm_assoc, gm_assoc]
      congr 1
      rw [← gm_assoc, ← gm_assoc, gm_comm (gi _) (X m)]
theorem divG (B : Nat) (a b : UInt8) (w : World) (hT : Tab w B) (hb : b ≠ 0) : Calls Try.prog 29 #[.pointer (some ⟨B, 0, none⟩), .int .u8 (a.toNat : Int), .int .u8 (b.toNat : Int)] w fun e w' => e = .returned (.tuple #[.int .u8 ((gm a (gi b)).toNat : Int), .int .i64 0]) ∧ ∃ m, w' = w.drewN m := by
  have h := divc B a.toNat b.toNat w hT a.toNat_lt b.toNat_lt
  have h0 : b.toNat ≠ 0 := fun h => hb (UInt8.toNat_inj.1 h)
  rw [if_neg h0, ← gi_toNat, ← gm_toNat] at h
  exact h
theorem mulG (B : Nat) (a b : UInt8) (w : World) (hT : Tab w B) : Calls Try.prog 24 #[.pointer (some ⟨B, 0, none⟩), .int .u8 (a.toNat : Int), .int .u8 (b.toNat : Int)] w fun e w' => e = .returned (.int .u8 ((gm a b).toNat : Int)) ∧ ∃ m, w' = w.drewN m := by
  have h := mulc B a.toNat b.toNat w hT a.toNat_lt b.toNat_lt
  rw [← gm_toNat] at h
  exact h
theorem twice_no {L : List (List UInt8)} (h : ¬ TwiceIn L) {i k : Nat} (hi : i < L.length) (hk : k < L.length) (hne : k ≠ i) : XP L k ≠ XP L i := fun e => by
  rcases Nat.lt_or_gt_of_ne hne with h1 | h1
  · exact h ⟨k, i, h1, hi, e⟩
  · exact h ⟨i, k, h1, hk, e.symm⟩
def WtRel (L : List (List UInt8)) (i : Nat) (w : World) (p v : Value) (W : World) : Prop := ∃ k : Nat, v = .int .i64 (k : Int) ∧ k ≤ L.length ∧ p = .int .u8 ((wP (XP L) i k).toNat : Int) ∧ Below w.heap.size w W
set_option maxRecDepth 100000 in
set_option maxHeartbeats 4000000 in
theorem weight_any (B i : Nat) (v : Value) (L : List (List UInt8)) (w : World) (hT : Tab w B) (hr : Rf 33 w v L) (hn : L.length ≤ 1000) (hi : i < L.length) (hd : ¬ TwiceIn L) :
    Calls Try.prog 23 #[.pointer (some ⟨B, 0, none⟩), v, .int .u8 ((XP L i).toNat : Int)] w fun e w' => e = .returned (.int .u8 ((wgt (XL L) i L.length).toNat : Int)) ∧ Below w.heap.size w w' := by
  obtain ⟨A, c, rfl, hc1, hc2, hA⟩ := hr.form
  have HA := Lib.hid hA
  have HR := Lib.hid hr
  have nI : (L.length : Int) ≤ 1000 := by omega
  have HTW : Hid (∀ k, k < L.length → k ≠ i → XP L k ≠ XP L i) := Lib.hid fun k hk hne => twice_no hd hi hk hne
  have HW : Hid (wP (XP L) i L.length = wgt (XL L) i L.length) := Lib.hid (wP_eq (XP L) i L.length HTW.out)
  have HTB := Lib.hid hT
  obtain ⟨x, hx⟩ : ∃ x, x = XP L i := ⟨_, rfl⟩
  rw [← hx]
  have HX := Lib.hid hx
  have HIS : Hid ((Try.prog.info? 31).map (·.size) = some 33) := Lib.hid (size_of info_share)
  have HZ : Hid ((Try.prog.info? 31).bind (·.zero) = some (.agg (zeros33.map bv).toArray)) := Lib.hid (zero_of info_share)
  have HZL : Hid ((zeros33.map bv).length = 33) := Lib.hid (by simp [zeros33])
  clear hA hr hn hd hi hT hx
  go_enter Try.func23, Try.ntmps23
  go_wp2_with (fail)
  go_loopw [7, 14] (fun p v wx => WtRel L i w p v wx) (fun _ v _ => L.length - (intOf v).toNat)
  case atStart => exact ⟨0, rfl, by omega, rfl, Below.refl _ _⟩
  case round =>
    obtain ⟨k, rfl, hk, rfl, hb⟩ := hrel
    by_cases hlt : k < L.length
    · have hI : (k : Int) < L.length := by omega
      obtain ⟨b, off, rfl, hb1, hb3⟩ := HA.out (by omega)
      obtain ⟨sh, hsh⟩ : ∃ sh, sh = L.getD k [] := ⟨_, rfl⟩
      obtain ⟨y, hy⟩ : ∃ y, y = XP L k := ⟨_, rfl⟩
      obtain ⟨p, hp⟩ : ∃ p, p = wP (XP L) i k := ⟨_, rfl⟩
      rw [← hp]
      have HSL : Hid (sh.length = 33) := Lib.hid (by rw [hsh]; exact len_get HR.out.1 hlt)
      have HSM : Hid ((sh.map bv).length = 33) := Lib.hid (by rw [List.length_map]; exact HSL.out)
      have HRG : Hid (wr.rangeAt b (off + k * 33) (sh.map bv)) := Lib.hid (by
        rw [hsh]
        exact el_range HR.out.1 (fun i j hi hj => (hb.cell (p := ⟨b, off + i * 33 + j, none⟩) hb1).trans (hb3 i j hi hj)) hlt)
      have HX0 : Hid ((sh.map bv)[0]? = some (.int .u8 (y.toNat : Int))) := Lib.hid (by
        have hl := HSL.out
        have h0 : sh[0]? = some (XP L k) := by
          show _ = some ((L.getD k []).getD 0 0)
          rw [← hsh, List.getD, List.getElem?_eq_getElem (by omega)]
          rfl
        rw [List.getElem?_map, h0, hy]
        rfl)
      obtain ⟨W1, hW1⟩ : ∃ W : World, W = wr.alloc (.cells (zeros33.map bv).toArray 31) := ⟨_, rfl⟩
      have K1 : Hid (Blk W1 wr.heap.size 31 (zeros33.map bv)) := Lib.hid (by rw [hW1]; exact Blk.made _ _ _)
      have D1 : Hid (Below w.heap.size w W1) := Lib.hid (by rw [hW1]; exact hb.alloc hb.size _)
      have HNE : Hid (w.heap.size ≤ wr.heap.size) := Lib.hid hb.size
      have HK := Lib.hid hlt
      have HY := Lib.hid hy
      have HP := Lib.hid hp
      clear hb1 hb3 hsh hy hb hk hlt hp
      go_upto_region 5 with (first
        | refine wpList_load_mid rfl 31 (.tmp 16) rfl b (off + k * 33) rfl (sh.map bv) _ HRG.out Try.underlying31 rfl (by rw [HSM.out]; exact HIS.out) ?_
        | (refine wpList_alloc_z rfl 31 rfl _ HZ.out wr.heap.size rfl ?_
           rw [← hW1])
        | (refine wpList_store_blk rfl 31 _ _ rfl wr.heap.size 31 _ K1.out (sh.map bv) rfl rfl (by rw [HSM.out, HZL.out]) (by rw [HSM.out]; exact HIS.out) (bv_one _) ?_
           intro w2 hb2 hs2
           have K2 := Lib.hid hb2
           have D2 := Lib.hid (D1.out.trans (hs2.below.mono HNE.out))
           clear hb2 hs2))
      clear hW1 K1 D1 HRG
      have c0 : w2.cell? ⟨wr.heap.size, 0, none⟩ = some (.int .u8 (y.toNat : Int)) := by rw [K2.out.cell]; exact HX0.out
      have HT2 : Hid (Tab w2 B) := Lib.hid (Blk.below HTB.out D2.out (Blk.lt HTB.out))
      by_cases hki : k = i
      · have e1 : ((y.toNat : Int) == (x.toNat : Int)) = true := by rw [HY.out, HX.out, hki]; exact beq_self_eq_true _
        have HE : Hid (wP (XP L) i (k + 1) = p) := Lib.hid (by rw [HP.out]; show (if k = i then _ else _) = _; rw [if_pos hki])
        clear hki
        go_wp2_with (fail)
        have hl := HK.out
        refine ⟨⟨k + 1, by go_num, by omega, by rw [HE.out], D2.out⟩, by simp [intOf]; omega⟩
      · have hne : y ≠ x := by rw [HY.out, HX.out]; exact HTW.out k HK.out hki
        have e1 : ((y.toNat : Int) == (x.toNat : Int)) = false := by
          rw [beq_eq_false_iff_ne]
          exact fun h => hne (UInt8.toNat_inj.1 (by omega))
        have hxr := bx_u8 y x
        have HE : Hid (wP (XP L) i (k + 1) = gm p (gm y (gi (y ^^^ x)))) := Lib.hid (by rw [HP.out, HY.out, HX.out]; show (if k = i then _ else _) = _; rw [if_neg hki])
        have HDI := Lib.hid (divG B y (y ^^^ x) w2 HT2.out (fun h => hne (bx_eq h)))
        clear hki hne
        go_wp2_with (fail)
        refine HDI.out.mono ?_
        rintro e w3 ⟨rfl, m3, rfl⟩
        go_wp2_with (fail)
        refine (mulG B p (gm y (gi (y ^^^ x))) (w2.drewN m3) (HT2.out.drewN m3)).mono ?_
        rintro e w4 ⟨rfl, m4, rfl⟩
        go_wp2_with (fail)
        have hl := HK.out
        refine ⟨⟨k + 1, by go_num, by omega, by rw [HE.out], below_drewN D2.out _⟩, by simp [intOf]; omega⟩
    · obtain rfl : k = L.length := by omega
      have HB := Lib.hid hb
      clear hb hk hlt
      go_wp2_with (fail)
      go_ret
      exact ⟨by rw [← HW.out]; rfl, HB.out⟩
end Go.Proofs.Ytpegnafapjcanaa
