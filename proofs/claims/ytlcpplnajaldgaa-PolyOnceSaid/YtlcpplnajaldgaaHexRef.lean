/- The contracts of the second reference's digit, Hex and Unhex. Conditions: at most 2^40 bytes. -/
import Derived.Test.YtlcpplnajaldgaaMem
namespace Go.Proofs.Ytlcpplnajaldgaa
open Go.RowKit

/-- A digit of base 16. -/
def hexD (n : Nat) : UInt8 := if n < 10 then UInt8.ofNat (48 + n) else UInt8.ofNat (87 + n)
def hexB : List UInt8 → List UInt8
  | [] => []
  | x :: r => hexD (x.toNat / 16) :: hexD (x.toNat % 16) :: hexB r
theorem hexB_snoc (xs : List UInt8) (c : UInt8) : hexB (xs ++ [c]) = hexB xs ++ [hexD (c.toNat / 16), hexD (c.toNat % 16)] := by
  induction xs with
  | nil => rfl
  | cons x r ih => rw [List.cons_append, hexB, ih, hexB]; rfl
theorem hexB_length (xs : List UInt8) : (hexB xs).length = 2 * xs.length := by
  induction xs with
  | nil => rfl
  | cons x r ih => rw [hexB]; simp [ih]; omega
theorem hex_str (m : Nat) (hm : m < 16) : (⟨#[48, 49, 50, 51, 52, 53, 54, 55, 56, 57, 97, 98, 99, 100, 101, 102]⟩ : ByteArray).extract m (m + 1) = ⟨#[hexD m]⟩ := by
  have h : ∀ k : Fin 16, (⟨#[48, 49, 50, 51, 52, 53, 54, 55, 56, 57, 97, 98, 99, 100, 101, 102]⟩ : ByteArray).extract k.val (k.val + 1) = ⟨#[hexD k.val]⟩ := by decide +kernel
  exact h ⟨m, hm⟩
theorem str_one (ds : List UInt8) (c : UInt8) : (⟨ds.toArray⟩ : ByteArray) ++ ⟨#[c]⟩ = ⟨(ds ++ [c]).toArray⟩ := by
  apply ByteArray.ext
  simp
def HexRel (xs : List UInt8) (s i : Value) : Prop := ∃ j : Nat, i = .int .i64 j ∧ j ≤ xs.length ∧ s = .string ⟨(hexB (xs.take j)).toArray⟩

set_option maxRecDepth 100000 in
set_option maxHeartbeats 400000 in
theorem refHex_any (v : Value) (xs : List UInt8) (w : World) (h : Rd w v xs) (hl : xs.length ≤ 1000000) :
    Calls Try.prog 17 #[v] w fun e w' => e = .returned (.string ⟨(hexB xs).toArray⟩) ∧ ∃ n, w' = w.drewN n := by
  obtain ⟨A, c, rfl, hc1, hc2, hA⟩ := h.form
  unfold maxLen at hc2
  have HA := Lib.hid hA
  clear h hA
  go_enter Try.func17, Try.ntmps17
  go_wp2_with (fail)
  go_loopw [3, 4] (fun s i wr => HexRel xs s i ∧ ∃ n, wr = w.drewN n) (fun _ i _ => xs.length - (intOf i).toNat)
  case atStart => exact ⟨⟨0, rfl, by omega, rfl⟩, 0, rfl⟩
  case round =>
    obtain ⟨⟨j, rfl, hj, rfl⟩, n, rfl⟩ := hrel
    by_cases hlt : j < xs.length
    · obtain ⟨b, off, rfl, hb1, hb2⟩ := HA.out (by omega)
      have hc := hb2 j hlt
      obtain ⟨x, hx⟩ : ∃ x, x = (xs[j]).toNat := ⟨_, rfl⟩
      have HS : Hid (hexB (xs.take (j + 1)) = hexB (xs.take j) ++ [hexD (x / 16), hexD (x % 16)]) := by
        rw [hx, List.take_succ_eq_append_getElem hlt]
        exact hexB_snoc _ _
      rw [← hx] at hc
      have hxl : (x : Int) ≤ 255 := by have := (xs[j]).toNat_lt; omega
      obtain ⟨ds, hds⟩ : ∃ ds, ds = hexB (xs.take j) := ⟨_, rfl⟩
      rw [← hds] at HS ⊢
      have hdl : ds.length ≤ 2000000 := by rw [hds, hexB_length, List.length_take]; omega
      clear hx hb2 hds
      go_wp2_with (fail)
      go_quiet (fail)
      go_wp2_with (fail)
      refine ⟨⟨⟨j + 1, by go_num, by omega, ?_⟩, _, rfl⟩, by simp [intOf]; omega⟩
      rw [hex_str _ (by omega), hex_str _ (by omega), str_one, str_one, HS.out]
      simp
    · have hj2 : Hid (xs.take j = xs) := List.take_of_length_le (by omega)
      go_wp2_with (fail)
      go_ret
      exact ⟨congrArg (fun l : List UInt8 => Ending.returned (.string ⟨(hexB l).toArray⟩)) hj2.out, n, rfl⟩

def unD (c : Nat) : Option Nat := if 48 ≤ c ∧ c ≤ 57 then some (c - 48) else if 97 ≤ c ∧ c ≤ 102 then some (c - 87) else none
theorem unD_lt {c d : Nat} (h : unD c = some d) : d < 16 := by
  unfold unD at h
  split at h
  · injection h; omega
  · split at h
    · injection h; omega
    · cases h
set_option maxHeartbeats 400000 in
theorem digit_any (c : Nat) (w : World) (hc : (c : Int) ≤ 255) :
    Calls Try.prog 27 #[.int .u8 c] w fun e w' => e = .returned (.tuple #[.int .u8 (((unD c).getD 0 : Nat) : Int), .bool (unD c).isSome]) ∧ w = w' := by
  by_cases h1 : 48 ≤ c ∧ c ≤ 57
  · have e : Hid (unD c = some (c - 48)) := if_pos h1
    have i1 : (48 : Int) ≤ c := by omega
    have i2 : (c : Int) ≤ 57 := by omega
    clear h1
    go_enter Try.func27, Try.ntmps27
    go_wp2
    go_ret2
    rw [e.out]
    exact ⟨congrArg (fun z : Int => Ending.returned (.tuple #[.int .u8 z, .bool true])) (by simp; omega), rfl⟩
  · by_cases h2 : 97 ≤ c ∧ c ≤ 102
    · have e : Hid (unD c = some (c - 87)) := by show unD c = some (c - 87); unfold unD; rw [if_neg h1, if_pos h2]
      have i1 : (97 : Int) ≤ c := by omega
      have i2 : (c : Int) ≤ 102 := by omega
      have i3 : (48 : Int) ≤ c := by omega
      have i4 : (57 : Int) < c := by omega
      clear h1 h2
      go_enter Try.func27, Try.ntmps27
      go_wp2
      go_ret2
      rw [e.out]
      exact ⟨congrArg (fun z : Int => Ending.returned (.tuple #[.int .u8 z, .bool true])) (by simp; omega), rfl⟩
    · have e : Hid (unD c = none) := by show unD c = none; unfold unD; rw [if_neg h1, if_neg h2]
      have hor : ((c : Int) < 48 ∧ (c : Int) < 97) ∨ ((48 : Int) ≤ c ∧ (57 : Int) < c ∧ (c : Int) < 97) ∨ ((48 : Int) ≤ c ∧ (57 : Int) < c ∧ (97 : Int) ≤ c ∧ (102 : Int) < c) := by omega
      clear h1 h2
      rcases hor with ⟨i1, i2⟩ | ⟨i1, i2, i3⟩ | ⟨i1, i2, i3, i4⟩
      all_goals
        go_enter Try.func27, Try.ntmps27
        go_wp2
        go_ret2
        rw [e.out]
        exact ⟨rfl, rfl⟩

def unhexB : List UInt8 → Option (List UInt8)
  | [] => some []
  | [_] => none
  | a :: b :: r => match unD a.toNat, unD b.toNat with
    | some x, some y => (unhexB r).map (UInt8.ofNat (x * 16 + y) :: ·)
    | _, _ => none
theorem unhexB_odd : ∀ (xs : List UInt8), xs.length % 2 = 1 → unhexB xs = none
  | [], h => by simp at h
  | [_], _ => rfl
  | a :: b :: r, h => by
    rw [unhexB, unhexB_odd r (by simp at h; omega)]
    split <;> rfl
/-- What Unhex answers: the bytes, or that there are none. -/
def UnPost (w : World) (o : Option (List UInt8)) (e : Ending) (w' : World) : Prop :=
  Below w.heap.size w w' ∧ match o with
    | some ys => ∃ v, e = .returned (.tuple #[v, .int .i64 0]) ∧ Rd w' v ys
    | none => e = .returned (.tuple #[.slice none 0 0, .int .i64 4])
def UnRel (w : World) (xs : List UInt8) (o i : Value) (wr : World) : Prop :=
  ∃ (j : Nat) (zs : List UInt8), i = .int .i64 j ∧ j ≤ xs.length ∧ j % 2 = 0 ∧ zs.length ≤ j ∧ wr.ownsRow w.heap.size 5 1 o zs.length (zs.map bv) ∧ Below w.heap.size w wr ∧
    unhexB xs = (unhexB (xs.drop j)).map (zs ++ ·)

set_option maxRecDepth 100000 in
set_option maxHeartbeats 400000 in
theorem refUnhex_any (s : ByteArray) (w : World) (hl : s.size ≤ 1000000) :
    Calls Try.prog 16 #[.string s] w (UnPost w (unhexB s.data.toList)) := by
  obtain ⟨i0, hi, hz0, hz1, hz2⟩ := info_parts info_u8
  have hsz : s.data.toList.length = s.size := by simp
  by_cases hodd : s.size % 2 = 1
  · have e : Hid (unhexB s.data.toList = none) := unhexB_odd _ (by omega)
    have k1 : ((s.size : Int) % 2 == 1) = true := by simp; omega
    clear hodd
    go_enter Try.func16, Try.ntmps16
    go_wp2_with (fail)
    go_ret2
    rw [e.out]
    exact ⟨Below.refl _ _, rfl⟩
  · have k1 : ((s.size : Int) % 2 == 1) = false := by simp; omega
    have HOD := Lib.hid hodd
    have HSZ := Lib.hid hsz
    obtain ⟨xs, hxs⟩ : ∃ xs, xs = s.data.toList := ⟨_, rfl⟩
    rw [← hxs]
    have HXS := Lib.hid hxs
    clear hodd hsz hxs
    go_enter Try.func16, Try.ntmps16
    go_wp2_with (fail)
    go_loopw [4, 5] (fun o i wr => UnRel w xs o i wr) (fun _ i _ => s.size - (intOf i).toNat)
    case atStart => exact ⟨0, [], rfl, by omega, rfl, by simp, World.ownsRow_nil _ _ _ _, Below.refl _ _, by simp⟩
    case round =>
      obtain ⟨j, zs, rfl, hj, hj2, hzl, own, bl, heq⟩ := hrel
      have HE := Lib.hid heq
      have HJ := Lib.hid hj
      have HJ2 := Lib.hid hj2
      clear heq hj hj2
      by_cases hlt : j < s.size
      · have hlt1 : j + 1 < s.size := by have := HOD.out; have := HJ2.out; omega
        have ea : xs[j]? = some s[j] := by rw [HXS.out]; exact (List.getElem?_eq_getElem (by have := HSZ.out; omega)).trans rfl
        have eb : xs[j + 1]? = some s[j + 1] := by rw [HXS.out]; exact (List.getElem?_eq_getElem (by have := HSZ.out; omega)).trans rfl
        have hdr : Hid (xs.drop j = s[j] :: s[j + 1] :: xs.drop (j + 2)) := by
          have l1 : j < xs.length := by rw [HXS.out, HSZ.out]; omega
          have l2 : j + 1 < xs.length := by rw [HXS.out, HSZ.out]; omega
          rw [List.getElem?_eq_getElem l1] at ea
          rw [List.getElem?_eq_getElem l2] at eb
          show xs.drop j = _
          rw [List.drop_eq_getElem_cons l1, List.drop_eq_getElem_cons l2, Option.some.inj ea, Option.some.inj eb]
        have D1 : Hid (∀ W, Calls Try.prog 27 #[.int .u8 (s[j].toNat : Int)] W fun e w' => e = .returned (.tuple #[.int .u8 (((unD s[j].toNat).getD 0 : Nat) : Int), .bool (unD s[j].toNat).isSome]) ∧ W = w') := fun W => digit_any _ W (by have := s[j].toNat_lt; omega)
        have D2 : Hid (∀ W, Calls Try.prog 27 #[.int .u8 (s[j + 1].toNat : Int)] W fun e w' => e = .returned (.tuple #[.int .u8 (((unD s[j + 1].toNat).getD 0 : Nat) : Int), .bool (unD s[j + 1].toNat).isSome]) ∧ W = w') := fun W => digit_any _ W (by have := s[j + 1].toNat_lt; omega)
        clear ea eb
        rcases h1 : unD s[j].toNat with _ | x
        · have HN : Hid (unhexB xs = none) := by rw [HE.out, hdr.out, unhexB, h1]; rfl
          rw [h1] at D1
          clear h1
          go_wp2_with (fail)
          refine (D1.out _).mono ?_
          rintro e w1 ⟨rfl, rfl⟩
          go_wp2_with (fail)
          refine (D2.out _).mono ?_
          rintro e w1 ⟨rfl, rfl⟩
          go_wp2_with (fail)
          go_ret2
          rw [HN.out]
          exact ⟨bl, rfl⟩
        · rcases h2 : unD s[j + 1].toNat with _ | y
          · have HN : Hid (unhexB xs = none) := by rw [HE.out, hdr.out, unhexB, h1, h2]; rfl
            rw [h1] at D1
            rw [h2] at D2
            clear h1 h2
            go_wp2_with (fail)
            refine (D1.out _).mono ?_
            rintro e w1 ⟨rfl, rfl⟩
            go_wp2_with (fail)
            refine (D2.out _).mono ?_
            rintro e w1 ⟨rfl, rfl⟩
            go_wp2_with (fail)
            go_ret2
            rw [HN.out]
            exact ⟨bl, rfl⟩
          · have HY : Hid (unhexB xs = (unhexB (xs.drop (j + 2))).map ((zs ++ [UInt8.ofNat (x * 16 + y)]) ++ ·)) := by
              rw [HE.out, hdr.out, unhexB, h1, h2]
              show Option.map _ (Option.map _ _) = _
              rw [Option.map_map]
              congr 1
              funext l
              simp
            have hx16 := unD_lt h1
            have hy16 := unD_lt h2
            have ib1 : (x : Int) ≤ 15 := by omega
            have ib2 : (y : Int) ≤ 15 := by omega
            rw [h1] at D1
            rw [h2] at D2
            have HZL : Hid (zs.length ≤ 1000000) := by show zs.length ≤ 1000000; omega
            clear h1 h2 hx16 hy16
            go_wp2_with (fail)
            refine (D1.out _).mono ?_
            rintro e w1 ⟨rfl, rfl⟩
            go_wp2_with (fail)
            refine (D2.out _).mono ?_
            rintro e w1 ⟨rfl, rfl⟩
            go_wp2_with (at_builtin
                         refine wpList_append_one _ _ _ rfl _ _ _ rfl w.heap.size 5 i0 (.int .u8 0) 1 Try.underlying24 hi hz0 hz1 hz2 rfl rfl u4 _ _ rfl own rfl ?_ ?_ ?_ ?_
                         · have := HZL.out; unfold maxLen; omega
                         · have := HZL.out; omega
                         · exact bl.size
                         intro v2 w2 own2 b2)
            go_roundw
            case rel =>
              have e : Value.int .u8 ((x : Int) * 16 + y) = bv (UInt8.ofNat (x * 16 + y)) := by
                unfold bv
                rw [UInt8.toNat_ofNat']
                exact congrArg (Value.int .u8) (by omega)
              rw [e] at own2
              refine ⟨j + 2, zs ++ [UInt8.ofNat (x * 16 + y)], by go_num, by rw [HXS.out, HSZ.out]; omega, by have := HJ2.out; omega, by simp; omega, ?_, bl.trans b2, HY.out⟩
              rw [List.length_append, List.map_append]
              exact own2
            case measure => simp [intOf]; omega
      · have hj3 : Hid (unhexB xs = some zs) := by
          show unhexB xs = some zs
          rw [HE.out, List.drop_of_length_le (by rw [HXS.out, HSZ.out]; omega)]
          simp [unhexB]
        have HR := Lib.hid (Rd.of_own own)
        clear own
        go_wp2_with (fail)
        go_ret2
        rw [hj3.out]
        exact ⟨bl, _, rfl, HR.out⟩
end Go.Proofs.Ytlcpplnajaldgaa
