/- The contracts of sha.worth, sha.Hex and sha.Unhex. Conditions: at most 1000000 bytes. -/
import Derived.Test.YtjinhgomhdlboaaDoorHexRef
import Derived.Test.YtjinhgomhdlboaaDoorKept
import Derived.Laws.BitsAllLaws
import Derived.Laws.IdiomStrings
import Derived.Lib.BufferRead
import Derived.Deep.MidRow
namespace Go.Proofs.YtjinhgomhdlboaaDoor
open Go.RowKit

set_option maxHeartbeats 400000 in
theorem worth_any (c : Nat) (w : World) (hc : (c : Int) ≤ 255) :
    Calls Tryd.prog 28 #[.int .u8 c] w fun e w' => e = .returned (.tuple #[.int .u8 (((unD c).getD 0 : Nat) : Int), .bool (unD c).isSome]) ∧ w = w' := by
  by_cases h1 : 48 ≤ c ∧ c ≤ 57
  · have e : Hid (unD c = some (c - 48)) := if_pos h1
    have i1 : (48 : Int) ≤ c := by omega
    have i2 : (c : Int) ≤ 57 := by omega
    clear h1
    go_enter Tryd.func28, Tryd.ntmps28
    go_wp2
    go_ret2
    rw [e.out]
    exact ⟨congrArg (fun z : Int => Ending.returned (.tuple #[.int .u8 z, .bool true])) (by simp; omega), rfl⟩
  · by_cases h2 : 97 ≤ c ∧ c ≤ 102
    · have e : Hid (unD c = some (c - 87)) := by show unD c = some (c - 87); unfold unD; rw [if_neg h1, if_pos h2]
      have i1 : (97 : Int) ≤ c := by omega
      have i2 : (c : Int) ≤ 102 := by omega
      have i3 : (48 : Int) ≤ c := by omega
      have i4 : (57 : Int) < c := by omega
      clear h1 h2
      go_enter Tryd.func28, Tryd.ntmps28
      go_wp2
      go_ret2
      rw [e.out]
      exact ⟨congrArg (fun z : Int => Ending.returned (.tuple #[.int .u8 z, .bool true])) (by simp; omega), rfl⟩
    · have e : Hid (unD c = none) := by show unD c = none; unfold unD; rw [if_neg h1, if_neg h2]
      have hor : ((c : Int) < 48 ∧ (c : Int) < 97) ∨ ((48 : Int) ≤ c ∧ (57 : Int) < c ∧ (c : Int) < 97) ∨ ((48 : Int) ≤ c ∧ (57 : Int) < c ∧ (97 : Int) ≤ c ∧ (102 : Int) < c) := by omega
      clear h1 h2
      rcases hor with ⟨i1, i2⟩ | ⟨i1, i2, i3⟩ | ⟨i1, i2, i3, i4⟩
      all_goals
        go_enter Tryd.func28, Tryd.ntmps28
        go_wp2
        go_ret2
        rw [e.out]
        exact ⟨rfl, rfl⟩

theorem index_hex (m : Nat) (hm : m < 16) (W : World) : (Instr.index 9 (.string ⟨#[48, 49, 50, 51, 52, 53, 54, 55, 56, 57, 97, 98, 99, 100, 101, 102]⟩) (.int .u8 (m : Int))).run Tryd.prog W = .ok (.int .u8 ((hexD m).toNat : Int)) W := by
  have h : m = 0 ∨ m = 1 ∨ m = 2 ∨ m = 3 ∨ m = 4 ∨ m = 5 ∨ m = 6 ∨ m = 7 ∨ m = 8 ∨ m = 9 ∨ m = 10 ∨ m = 11 ∨ m = 12 ∨ m = 13 ∨ m = 14 ∨ m = 15 := by omega
  rcases h with rfl | rfl | rfl | rfl | rfl | rfl | rfl | rfl | rfl | rfl | rfl | rfl | rfl | rfl | rfl | rfl <;> rfl
theorem conv_own {w : World} {B n : Nat} {v : Value} {ds : List UInt8} (h : w.ownsRow B 5 1 v n (ds.map bv)) : (convert 22 9 v).run Tryd.prog w = .ok (.string ⟨ds.toArray⟩) w := by
  have hl : ds.length = n := by simpa using h.1
  rcases h.2 with ⟨rfl, h0⟩ | ⟨g, cap, cur, rfl, hg, hh, hn, hc, hs, ht⟩
  · obtain rfl : ds = [] := List.eq_nil_of_length_eq_zero (by omega)
    exact Lib.run_convert_nil_bytes w 22 9 5 0 Tryd.underlying22 Tryd.underlying5 Tryd.underlying9
  · rw [← hl]
    refine run_convert_bytes_back w 22 9 5 ⟨g, 0, none⟩ cap ds Tryd.underlying22 Tryd.underlying5 Tryd.underlying9 fun i hi => ?_
    rw [Addr.add_mid, Nat.zero_add, h.cellAt i (by omega), List.getElem?_map, List.getElem?_eq_getElem hi]
    rfl
def HexOwn (w : World) (xs : List UInt8) (v i : Value) (wr : World) : Prop :=
  ∃ j : Nat, i = .int .i64 (j : Int) ∧ j ≤ xs.length ∧ wr.ownsRow w.heap.size 5 1 v (2 * j) ((hexB (xs.take j)).map bv) ∧ Below w.heap.size w wr
set_option maxRecDepth 100000 in
set_option maxHeartbeats 400000 in
theorem shaHex_any (v : Value) (xs : List UInt8) (w : World) (h : Rd w v xs) (hl : xs.length ≤ 1000000) :
    Calls Tryd.prog 13 #[v] w fun e w' => e = .returned (.string ⟨(hexB xs).toArray⟩) ∧ Below w.heap.size w w' := by
  obtain ⟨i0, hi, hz0, hz1, hz2⟩ := info_parts info_u8
  obtain ⟨A, c, rfl, hc1, hc2, hA⟩ := h.form
  unfold maxLen at hc2
  have HA := Lib.hid hA
  have lI : (xs.length : Int) ≤ 1000000 := by omega
  clear h hA
  go_enter Tryd.func13, Tryd.ntmps13
  go_wp2_with (at_make
               refine wpList_make_own _ rfl _ _ _ rfl w.heap.size 5 i0 _ 1 Tryd.underlying22 hi hz0 hz1 _ _ _ (2 * xs.length) rfl rfl (by omega) ?_ ?_ (Nat.le_refl _) ?_
               · rw [hz2]; omega
               · unfold maxLen; omega
               intro w1 own1 g1)
  have HB1 := Lib.hid ((Below.refl w.heap.size w).grown g1 (Nat.le_refl _) (fun k hk => by cases hk))
  have HO1 := Lib.hid own1
  clear own1 g1
  go_loopw [3, 12] (fun v i wr => HexOwn w xs v i wr) (fun _ i _ => xs.length - (intOf i).toNat)
  case atStart => exact ⟨0, rfl, by omega, HO1.out, HB1.out⟩
  case round =>
    obtain ⟨j, rfl, hj, own, bl⟩ := hrel
    by_cases hlt : j < xs.length
    · obtain ⟨b, off, rfl, hb1, hb2⟩ := HA.out (by omega)
      have hI : (j : Int) < xs.length := by omega
      have hc := (bl.cell (p := ⟨b, off + j, none⟩) hb1).trans (hb2 j hlt)
      obtain ⟨x, hx⟩ : ∃ x, x = (xs[j]).toNat := ⟨_, rfl⟩
      have HS : Hid (hexB (xs.take (j + 1)) = hexB (xs.take j) ++ [hexD (x / 16), hexD (x % 16)]) := by
        rw [hx, List.take_succ_eq_append_getElem hlt]
        exact hexB_snoc _ _
      rw [← hx] at hc
      have hxn : x < 256 := by have := (xs[j]).toNat_lt; omega
      have hxl : (x : Int) ≤ 255 := by omega
      have X1 : ∀ W : World, (Instr.index 9 (.string ⟨#[48, 49, 50, 51, 52, 53, 54, 55, 56, 57, 97, 98, 99, 100, 101, 102]⟩) (.int .u8 ((x : Int) / 16))).run Tryd.prog W = .ok (.int .u8 ((hexD (x / 16)).toNat : Int)) W := fun W => by
        have h := index_hex (x / 16) (by omega) W
        rw [show ((x / 16 : Nat) : Int) = (x : Int) / 16 by omega] at h
        exact h
      have E1 : bits .and .u8 (x : Int) 15 = (x : Int) % 16 := by
        have h := u8_and_nat x 15 hxn (by omega)
        rw [nat_mask4] at h
        exact h.trans (by omega)
      have X2 : ∀ W : World, (Instr.index 9 (.string ⟨#[48, 49, 50, 51, 52, 53, 54, 55, 56, 57, 97, 98, 99, 100, 101, 102]⟩) (.int .u8 ((x : Int) % 16))).run Tryd.prog W = .ok (.int .u8 ((hexD (x % 16)).toNat : Int)) W := fun W => by
        have h := index_hex (x % 16) (by omega) W
        rw [show ((x % 16 : Nat) : Int) = (x : Int) % 16 by omega] at h
        exact h
      have HO := Lib.hid own
      have HL := Lib.hid bl
      have qs : w.heap.size ≤ wr.heap.size := bl.size
      have qm : Hid (2 * j + 2 ≤ maxLen) := by show 2 * j + 2 ≤ maxLen; unfold maxLen; omega
      have qb : Hid ((2 * j + 2) * 1 ≤ 140737488355328) := by show (2 * j + 2) * 1 ≤ 140737488355328; omega
      clear hx hb2 own bl hxn
      go_wp2_with (fail)
      go_region_held3 (fun _ => True) (trivial)
        ((refine step_append_lit_kept wr [_, _] _ (by rfl) _ _ _ (by rfl) w.heap.size 5 i0 _ 1 Tryd.underlying22 hi hz0 hz1 hz2 rfl ?_ _ (2 * j) 2 _ (by rfl) HO.out (by rfl) (by rfl) qm.out qb.out qs ?_; (simp [Value.oneCell']); intro v2 w2 own2 gr2))
      go_wp2_with (fail)
      all_goals
        refine ⟨⟨j + 1, by go_num, hlt, ?_, HL.out.trans gr2.below⟩, by simp [intOf]; omega⟩
        rw [HS.out, List.map_append, show 2 * (j + 1) = 2 * j + 2 by omega]
        exact own2
    · obtain rfl : j = xs.length := by omega
      rw [List.take_length] at own
      have hcv := conv_own own
      have HL := Lib.hid bl
      clear own bl
      go_wp2_with (fail)
      go_ret
      exact ⟨rfl, HL.out⟩
set_option maxRecDepth 100000 in
set_option maxHeartbeats 400000 in
theorem shaUnhex_any (s : ByteArray) (w : World) (hl : s.size ≤ 1000000) :
    Calls Tryd.prog 14 #[.string s] w (UnPost w (unhexB s.data.toList)) := by
  obtain ⟨i0, hi, hz0, hz1, hz2⟩ := info_parts info_u8
  have hsz : s.data.toList.length = s.size := by simp
  by_cases hodd : s.size % 2 = 1
  · have e : Hid (unhexB s.data.toList = none) := unhexB_odd _ (by omega)
    have k1 : ((s.size : Int) % 2 != 0) = true := by simp; omega
    clear hodd
    go_enter Tryd.func14, Tryd.ntmps14
    go_wp2_with (fail)
    go_ret2
    rw [e.out]
    exact ⟨Below.refl _ _, rfl⟩
  · have k1 : ((s.size : Int) % 2 != 0) = false := by simp; omega
    have HOD := Lib.hid hodd
    have HSZ := Lib.hid hsz
    obtain ⟨xs, hxs⟩ : ∃ xs, xs = s.data.toList := ⟨_, rfl⟩
    rw [← hxs]
    have HXS := Lib.hid hxs
    clear hodd hsz hxs
    go_enter Tryd.func14, Tryd.ntmps14
    go_wp2_with (at_make
                 refine wpList_make_own _ rfl _ _ _ rfl w.heap.size 5 i0 _ 1 Tryd.underlying22 hi hz0 hz1 _ _ _ (s.size / 2) rfl rfl (by omega) ?_ ?_ (Nat.le_refl _) ?_
                 · rw [hz2]; omega
                 · unfold maxLen; omega
                 intro w0 own0 g0)
    have HB0 := Lib.hid ((Below.refl w.heap.size w).grown g0 (Nat.le_refl _) (fun k hk => by cases hk))
    have HO0 := Lib.hid own0
    clear own0 g0
    go_loopw [4, 5] (fun o i wr => UnRel w xs o i wr) (fun _ i _ => s.size - (intOf i).toNat)
    case atStart => exact ⟨0, [], rfl, by omega, rfl, by simp, HO0.out, HB0.out, by simp⟩
    case round =>
      obtain ⟨j, zs, rfl, hj, hj2, hzl, own, bl, heq⟩ := hrel
      have HE := Lib.hid heq
      have HJ := Lib.hid hj
      have HJ2 := Lib.hid hj2
      clear heq hj hj2
      by_cases hlt : j < s.size
      · have hlt1 : j + 1 < s.size := by have := HOD.out; have := HJ2.out; omega
        have ea : xs[j]? = some s[j] := by rw [HXS.out]; exact (List.getElem?_eq_getElem (by have := HSZ.out; omega)).trans rfl
        have eb : xs[j + 1]? = some s[j + 1] := by rw [HXS.out]; exact (List.getElem?_eq_getElem (by have := HSZ.out; omega)).trans rfl
        have hdr : Hid (xs.drop j = s[j] :: s[j + 1] :: xs.drop (j + 2)) := by
          have l1 : j < xs.length := by rw [HXS.out, HSZ.out]; omega
          have l2 : j + 1 < xs.length := by rw [HXS.out, HSZ.out]; omega
          rw [List.getElem?_eq_getElem l1] at ea
          rw [List.getElem?_eq_getElem l2] at eb
          show xs.drop j = _
          rw [List.drop_eq_getElem_cons l1, List.drop_eq_getElem_cons l2, Option.some.inj ea, Option.some.inj eb]
        have D1 : Hid (∀ W, Calls Tryd.prog 28 #[.int .u8 (s[j].toNat : Int)] W fun e w' => e = .returned (.tuple #[.int .u8 (((unD s[j].toNat).getD 0 : Nat) : Int), .bool (unD s[j].toNat).isSome]) ∧ W = w') := fun W => worth_any _ W (by have := s[j].toNat_lt; omega)
        have D2 : Hid (∀ W, Calls Tryd.prog 28 #[.int .u8 (s[j + 1].toNat : Int)] W fun e w' => e = .returned (.tuple #[.int .u8 (((unD s[j + 1].toNat).getD 0 : Nat) : Int), .bool (unD s[j + 1].toNat).isSome]) ∧ W = w') := fun W => worth_any _ W (by have := s[j + 1].toNat_lt; omega)
        clear ea eb
        rcases h1 : unD s[j].toNat with _ | x
        · have HN : Hid (unhexB xs = none) := by rw [HE.out, hdr.out, unhexB, h1]; rfl
          rw [h1] at D1
          clear h1
          go_wp2_with (fail)
          refine (D1.out _).mono ?_
          rintro e w1 ⟨rfl, rfl⟩
          go_wp2_with (fail)
          refine (D2.out _).mono ?_
          rintro e w1 ⟨rfl, rfl⟩
          go_wp2_with (fail)
          go_ret2
          rw [HN.out]
          exact ⟨bl, rfl⟩
        · rcases h2 : unD s[j + 1].toNat with _ | y
          · have HN : Hid (unhexB xs = none) := by rw [HE.out, hdr.out, unhexB, h1, h2]; rfl
            rw [h1] at D1
            rw [h2] at D2
            clear h1 h2
            go_wp2_with (fail)
            refine (D1.out _).mono ?_
            rintro e w1 ⟨rfl, rfl⟩
            go_wp2_with (fail)
            refine (D2.out _).mono ?_
            rintro e w1 ⟨rfl, rfl⟩
            go_wp2_with (fail)
            go_ret2
            rw [HN.out]
            exact ⟨bl, rfl⟩
          · have HY : Hid (unhexB xs = (unhexB (xs.drop (j + 2))).map ((zs ++ [UInt8.ofNat (x * 16 + y)]) ++ ·)) := by
              rw [HE.out, hdr.out, unhexB, h1, h2]
              show Option.map _ (Option.map _ _) = _
              rw [Option.map_map]
              congr 1
              funext l
              simp
            have hx16 := unD_lt h1
            have hy16 := unD_lt h2
            have ib1 : (x : Int) ≤ 15 := by omega
            have ib2 : (y : Int) ≤ 15 := by omega
            rw [h1] at D1
            rw [h2] at D2
            have HZL : Hid (zs.length ≤ 1000000) := by show zs.length ≤ 1000000; omega
            clear h1 h2 hx16 hy16
            go_wp2_with (fail)
            refine (D1.out _).mono ?_
            rintro e w1 ⟨rfl, rfl⟩
            go_wp2_with (fail)
            refine (D2.out _).mono ?_
            rintro e w1 ⟨rfl, rfl⟩
            go_wp2_with (at_builtin
                         refine wpList_append_one _ _ _ rfl _ _ _ rfl w.heap.size 5 i0 (.int .u8 0) 1 Tryd.underlying22 hi hz0 hz1 hz2 rfl rfl u4 _ _ rfl own rfl ?_ ?_ ?_ ?_
                         · have := HZL.out; unfold maxLen; omega
                         · have := HZL.out; omega
                         · exact bl.size
                         intro v2 w2 own2 b2)
            go_roundw
            case rel =>
              have e : Value.int .u8 (bits .or .u8 ((x : Int) * 16) (y : Int)) = bv (UInt8.ofNat (x * 16 + y)) := by
                unfold bv
                rw [UInt8.toNat_ofNat', show (x : Int) * 16 = ((x * 16 : Nat) : Int) by omega, u8_or_nat _ _ (by omega) (by omega), nat_join 4 _ _ (by omega) (by omega)]
                exact congrArg (Value.int .u8) (by omega)
              rw [e] at own2
              refine ⟨j + 2, zs ++ [UInt8.ofNat (x * 16 + y)], by go_num, by rw [HXS.out, HSZ.out]; omega, by have := HJ2.out; omega, by simp; omega, ?_, bl.trans b2, HY.out⟩
              rw [List.length_append, List.map_append]
              exact own2
            case measure => simp [intOf]; omega
      · have hj3 : Hid (unhexB xs = some zs) := by
          show unhexB xs = some zs
          rw [HE.out, List.drop_of_length_le (by rw [HXS.out, HSZ.out]; omega)]
          simp [unhexB]
        have HR := Lib.hid (Rd.of_own own)
        clear own
        go_wp2_with (fail)
        go_ret2
        rw [hj3.out]
        exact ⟨bl, _, rfl, HR.out⟩
end Go.Proofs.YtjinhgomhdlboaaDoor
