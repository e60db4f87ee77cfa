/- field's Mul, Inv, Div and Eval over tables of any 512 bytes, and over none: what each answers. Conditions: bytes; at most 1000 coefficients. -/
import Derived.Test.YtpegnafapjcanaaFieldD
import Derived.Deep.QuietTactic
import Derived.BigQuiet
namespace Go.Proofs.Ytpegnafapjcanaa
open Go.RowKit

/-- Cell i of tables. -/
def tc (bs : List UInt8) (i : Nat) : Nat := (bs.getD i 0).toNat
theorem tc_lt (bs : List UInt8) (i : Nat) : tc bs i < 256 := UInt8.toNat_lt _
theorem tc_cell {bs : List UInt8} {W : World} {B i : Nat} {t : TypeId} (h : Blk W B t (bs.map bv)) (hi : i < bs.length) : W.cell? ⟨B, i, none⟩ = some (.int .u8 (tc bs i : Int)) := by
  rw [h.cell, List.getElem?_map, List.getElem?_eq_getElem hi]
  unfold tc
  rw [List.getD, List.getElem?_eq_getElem hi]
  rfl
/-- The product by tables. -/
def tmul (bs : List UInt8) (a b : Nat) : Nat := if a = 0 ∨ b = 0 then 0 else tc bs ((tc bs (256 + a) + tc bs (256 + b)) % 255)
theorem tmul_lt (bs : List UInt8) (a b : Nat) : tmul bs a b < 256 := by
  unfold tmul
  split
  · decide
  · exact tc_lt ..
def tinv (bs : List UInt8) (a : Nat) : Nat := if a = 0 then 0 else tc bs (255 - tc bs (256 + a))
theorem tinv_lt (bs : List UInt8) (a : Nat) : tinv bs a < 256 := by
  unfold tinv
  split
  · decide
  · exact tc_lt ..
def tev (bs : List UInt8) (x : Nat) : List UInt8 → Nat
  | [] => 0
  | c :: r => tmul bs (tev bs x r) x ^^^ c.toNat
theorem tev_lt (bs : List UInt8) (x : Nat) : ∀ l, tev bs x l < 256
  | [] => by show 0 < 256; decide
  | _ :: _ => Nat.xor_lt_two_pow (n := 8) (tmul_lt ..) (UInt8.toNat_lt _)
set_option maxRecDepth 100000 in
set_option maxHeartbeats 2000000 in
theorem mulg (bs : List UInt8) (B a b : Nat) (w : World) (hbs : bs.length = 512) (hB : Blk w B 59 (bs.map bv)) (ha : a < 256) (hb : b < 256) :
    Calls Try.prog 24 #[.pointer (some ⟨B, 0, none⟩), .int .u8 (a : Int), .int .u8 (b : Int)] w fun e w' => e = .returned (.int .u8 (tmul bs a b : Nat)) ∧ ∃ m, w' = w.drewN m := by
  have aI : (a : Int) < 256 := by omega
  have bI : (b : Int) < 256 := by omega
  by_cases a0 : a = 0
  · subst a0
    go_enter Try.func24, Try.ntmps24
    go_wp2_with (fail)
    go_ret
    exact ⟨by simp [tmul], 0, rfl⟩
  by_cases b0 : b = 0
  · subst b0
    have a0I : (a : Int) ≠ 0 := by omega
    go_enter Try.func24, Try.ntmps24
    go_wp2_with (fail)
    go_ret
    exact ⟨by simp [tmul], 0, rfl⟩
  have a0I : (a : Int) ≠ 0 := by omega
  have b0I : (b : Int) ≠ 0 := by omega
  obtain ⟨p, hp⟩ : ∃ p, p = tc bs (256 + a) := ⟨_, rfl⟩
  obtain ⟨q, hq⟩ : ∃ q, q = tc bs (256 + b) := ⟨_, rfl⟩
  obtain ⟨r, hr⟩ : ∃ r, r = (p + q) % 255 := ⟨_, rfl⟩
  obtain ⟨z, hz⟩ : ∃ z, z = tc bs r := ⟨_, rfl⟩
  have hpl : p < 256 := hp ▸ tc_lt ..
  have hql : q < 256 := hq ▸ tc_lt ..
  have hrl : r < 255 := by omega
  have c1 : ∀ m, (w.drewN m).cell? ⟨B, 256 + a, none⟩ = some (.int .u8 (p : Int)) := fun m => hp ▸ tc_cell (hB.drewN m) (by omega)
  have c2 : ∀ m, (w.drewN m).cell? ⟨B, 256 + b, none⟩ = some (.int .u8 (q : Int)) := fun m => hq ▸ tc_cell (hB.drewN m) (by omega)
  have c3 : ∀ m, (w.drewN m).cell? ⟨B, r, none⟩ = some (.int .u8 (z : Int)) := fun m => hz ▸ tc_cell (hB.drewN m) (by omega)
  have HZ : Hid (tmul bs a b = z) := Lib.hid (by unfold tmul; rw [if_neg (by omega), ← hp, ← hq, ← hr, hz])
  have eR : ((p : Int) + q) % 255 = (r : Int) := by omega
  have rI : (r : Int) < 256 := by omega
  have pI : (p : Int) < 256 := by omega
  have qI : (q : Int) < 256 := by omega
  clear hp hq hr hz hB hbs
  go_enter Try.func24, Try.ntmps24
  go_wp2_with (fail)
  go_quiet (fail)
  go_wp2_with (fail)
  go_ret
  exact ⟨by rw [HZ.out]; rfl, _, rfl⟩
set_option maxRecDepth 100000 in
set_option maxHeartbeats 2000000 in
theorem invg (bs : List UInt8) (B a : Nat) (w : World) (hbs : bs.length = 512) (hB : Blk w B 59 (bs.map bv)) (ha : a < 256) :
    Calls Try.prog 30 #[.pointer (some ⟨B, 0, none⟩), .int .u8 (a : Int)] w fun e w' => e = .returned (.tuple #[.int .u8 (tinv bs a : Nat), .int .i64 (if a = 0 then 1 else 0)]) ∧ ∃ m, w' = w.drewN m := by
  have aI : (a : Int) < 256 := by omega
  by_cases a0 : a = 0
  · subst a0
    go_enter Try.func30, Try.ntmps30
    go_wp2_with (fail)
    go_ret2
    exact ⟨by simp [tinv], 0, rfl⟩
  have a0I : (a : Int) ≠ 0 := by omega
  obtain ⟨p, hp⟩ : ∃ p, p = tc bs (256 + a) := ⟨_, rfl⟩
  have hpl : p < 256 := hp ▸ tc_lt ..
  obtain ⟨r, hr⟩ : ∃ r, r = 255 - p := ⟨_, rfl⟩
  obtain ⟨z, hz⟩ : ∃ z, z = tc bs r := ⟨_, rfl⟩
  have c1 : ∀ m, (w.drewN m).cell? ⟨B, 256 + a, none⟩ = some (.int .u8 (p : Int)) := fun m => hp ▸ tc_cell (hB.drewN m) (by omega)
  have c3 : ∀ m, (w.drewN m).cell? ⟨B, r, none⟩ = some (.int .u8 (z : Int)) := fun m => hz ▸ tc_cell (hB.drewN m) (by omega)
  have HZ : Hid (tinv bs a = z) := Lib.hid (by unfold tinv; rw [if_neg a0, ← hp, ← hr, hz])
  have eR : 255 - (p : Int) = (r : Int) := by omega
  have eW : IntKind.i64.wrap (255 - (p : Int)) = (r : Int) := by rw [eR]; exact IntWalk.i64_in _ (by omega)
  have rI : (r : Int) < 256 := by omega
  have pI : (p : Int) < 256 := by omega
  clear hp hr hz hB hbs eR a0
  go_enter Try.func30, Try.ntmps30
  go_wp2_with (fail)
  go_quiet (fail)
  go_wp2_with (fail)
  go_ret2
  exact ⟨by rw [HZ.out]; rfl, _, rfl⟩
set_option maxRecDepth 100000 in
set_option maxHeartbeats 2000000 in
theorem divg (bs : List UInt8) (B a b : Nat) (w : World) (hbs : bs.length = 512) (hB : Blk w B 59 (bs.map bv)) (ha : a < 256) (hb : b < 256) :
    Calls Try.prog 29 #[.pointer (some ⟨B, 0, none⟩), .int .u8 (a : Int), .int .u8 (b : Int)] w fun e w' => e = .returned (.tuple #[.int .u8 (tmul bs a (tinv bs b) : Nat), .int .i64 (if b = 0 then 1 else 0)]) ∧ ∃ m, w' = w.drewN m := by
  have aI : (a : Int) < 256 := by omega
  have bI : (b : Int) < 256 := by omega
  have HI := Lib.hid (invg bs B b w hbs hB hb)
  have HM : ∀ m, Hid (Calls _ _ _ (w.drewN m) _) := fun m => Lib.hid (mulg bs B a (tinv bs b) (w.drewN m) hbs (hB.drewN m) ha (tinv_lt ..))
  clear hB hbs
  go_enter Try.func29, Try.ntmps29
  go_wp2_with (fail)
  by_cases b0 : b = 0
  · rw [if_pos b0] at HI
    refine HI.out.mono ?_
    rintro e w1 ⟨rfl, m, rfl⟩
    go_wp2_with (fail)
    go_ret2
    exact ⟨by simp [tinv, tmul], m, rfl⟩
  · rw [if_neg b0] at HI
    refine HI.out.mono ?_
    rintro e w1 ⟨rfl, m, rfl⟩
    go_wp2_with (fail)
    refine (HM m).out.mono ?_
    rintro e w2 ⟨rfl, m2, rfl⟩
    go_wp2_with (fail)
    go_ret2
    exact ⟨rfl, m + m2, rfl⟩
def TevRel (bs l : List UInt8) (x : Nat) (w : World) (s v : Value) (W : World) : Prop := ∃ i m : Nat, v = .int .i64 (i : Int) ∧ i ≤ l.length ∧ s = .int .u8 (tev bs x (l.drop (l.length - i)) : Nat) ∧ W = w.drewN m
theorem tev_step (bs l : List UInt8) (x : Nat) {i : Nat} (h : i < l.length) : tev bs x (l.drop (l.length - (i + 1))) = tmul bs (tev bs x (l.drop (l.length - i))) x ^^^ (l[l.length - 1 - i]'(by omega)).toNat := by
  have e : l.drop (l.length - (i + 1)) = l[l.length - 1 - i]'(by omega) :: l.drop (l.length - i) := by
    rw [List.drop_eq_getElem_cons (by omega)]
    congr 1
    · congr 1; omega
    · congr 1; omega
  rw [e]
  rfl
set_option maxRecDepth 100000 in
set_option maxHeartbeats 2000000 in
theorem evalg (bs : List UInt8) (B : Nat) (v : Value) (l : List UInt8) (x : Nat) (w : World) (hbs : bs.length = 512) (hB : Blk w B 59 (bs.map bv)) (hr : Rd w v l) (hl : l.length ≤ 1000) (hx : x < 256) :
    Calls Try.prog 27 #[.pointer (some ⟨B, 0, none⟩), v, .int .u8 (x : Int)] w fun e w' => e = .returned (.int .u8 (tev bs x l : Nat)) ∧ ∃ m, w' = w.drewN m := by
  obtain ⟨A, c, rfl, hc1, hc2, hA⟩ := hr.form
  have HA := Lib.hid hA
  have HBL := Lib.hid hB
  have HBS := Lib.hid hbs
  unfold maxLen at hc2
  have lI : (l.length : Int) ≤ 1000 := by omega
  clear hr hA hB hbs
  go_enter Try.func27, Try.ntmps27
  go_wp2_with (fail)
  go_loopw [7, 13] (fun s v wx => TevRel bs l x w s v wx) (fun _ v _ => l.length - (intOf v).toNat)
  case atStart => exact ⟨0, 0, rfl, by omega, by simp [tev], rfl⟩
  case round =>
    obtain ⟨i, m0, rfl, hi, rfl, rfl⟩ := hrel
    by_cases hlt : i < l.length
    · have hI : (i : Int) < l.length := by omega
      obtain ⟨b, off, rfl, hb1, hb3⟩ := HA.out (by omega)
      obtain ⟨s, hs⟩ : ∃ s, s = tev bs x (l.drop (l.length - i)) := ⟨_, rfl⟩
      have hsl : s < 256 := by rw [hs]; exact tev_lt ..
      obtain ⟨k, hk⟩ : ∃ k, k = l.length - 1 - i := ⟨_, rfl⟩
      have hkl : k < l.length := by omega
      obtain ⟨y, hy⟩ : ∃ y : Nat, y = (l[k]).toNat := ⟨_, rfl⟩
      have hyl : y < 256 := by rw [hy]; exact UInt8.toNat_lt _
      have hcell : ∀ m, (w.drewN m).cell? ⟨b, off + k, none⟩ = some (.int .u8 (y : Int)) := fun m => by rw [hy]; exact hb3 k hkl
      have HN : Hid (tev bs x (l.drop (l.length - (i + 1))) = tmul bs s x ^^^ y) := Lib.hid (by
        rw [tev_step bs l x hlt, ← hs, hy]
        simp only [hk])
      obtain ⟨z, hz⟩ : ∃ z, z = tmul bs s x := ⟨_, rfl⟩
      have hzl : z < 256 := hz ▸ tmul_lt ..
      have HM : Hid (∀ m, Calls Try.prog 24 #[.pointer (some ⟨B, 0, none⟩), .int .u8 (s : Int), .int .u8 (x : Int)] (w.drewN m) fun e w' => e = .returned (.int .u8 (z : Int)) ∧ ∃ q, w' = (w.drewN m).drewN q) := Lib.hid fun m => by
        rw [hz]
        exact mulg bs B s x _ HBS.out (HBL.out.drewN m) hsl hx
      have hxr := xorB_nat z y hzl hyl
      rw [← hz] at HN
      rw [← hs]
      have e1 : IntKind.i64.wrap ((l.length : Int) - 1) = (l.length : Int) - 1 := IntWalk.i64_in _ (by omega)
      have e2 : IntKind.i64.wrap ((l.length : Int) - 1 - i) = (k : Int) := by
        rw [show (l.length : Int) - 1 - i = (k : Int) by omega]
        exact IntWalk.i64_in _ (by omega)
      have kI : (k : Int) < l.length := by omega
      clear hb3 hy hs hk hz
      go_wp2_with (fail)
      go_quiet (first | (go_at_call 24; exact quiet_add (HM.out _)))
      go_wp2_with (fail)
      refine ⟨⟨i + 1, _, by go_num, by omega, by rw [HN.out], rfl⟩, by simp [intOf]; omega⟩
    · obtain rfl : i = l.length := by omega
      go_wp2_with (fail)
      go_ret
      exact ⟨by simp, m0, rfl⟩
end Go.Proofs.Ytpegnafapjcanaa
