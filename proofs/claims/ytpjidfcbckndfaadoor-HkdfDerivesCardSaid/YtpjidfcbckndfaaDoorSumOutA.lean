/- sha's sum: the two loops. Conditions: words that fit uint32. -/
import Derived.Test.YtpjidfcbckndfaaDoorRefLoopC
namespace Go.Proofs.YtpjidfcbckndfaaDoor
open Go.RowKit

theorem byte_shift {n j : Nat} (hj : j < 4) : (beB 4 n)[j]? = some (UInt8.ofNat (n / 2 ^ (8 * (3 - j)) % 256)) := by
  have e : beB 4 n = [UInt8.ofNat (n / 256 / 256 / 256 % 256), UInt8.ofNat (n / 256 / 256 % 256), UInt8.ofNat (n / 256 % 256), UInt8.ofNat (n % 256)] := rfl
  rw [e]
  have h : j = 0 ∨ j = 1 ∨ j = 2 ∨ j = 3 := by omega
  rcases h with rfl | rfl | rfl | rfl
  · simp [Nat.div_div_eq_div_mul]
  · simp [Nat.div_div_eq_div_mul]
  · simp
  · simp
def SinRel (s : St) (i : Nat) (w : World) (S : Nat) (v : Value) (wr : World) : Prop :=
  ∃ j : Nat, v = .int .i64 (j : Int) ∧ j ≤ 4 ∧ Blk wr S 26 (outC s.bytes (4 * i + j)) ∧ Below S w wr
noncomputable def body_sin : Code := (((Tryd.f33.body.map loopsOf).getD [])[1]?).getD .skip
set_option maxRecDepth 100000 in
set_option maxHeartbeats 1000000 in
theorem sin_loop (c0 c1 c2 c6 c7 c8 c9 c10 c11 c13 c14 c15 c16 c17 c18 c19 c20 c21 c22 c23 c24 c25 c26 c27 c28 : Value) (s : St) (hs : Hid s.ok) (i : Nat) (hi : i < 8) (w : World) (S : Nat) (h0 : Hid (Blk w S 26 (outC s.bytes (4 * i)))) {Q : Exit → Act → World → Prop}
    (HQ : Hid (∀ (u6 u13 u14 u15 u16 u17 u18 u19 u20 u21 u22 u23 u24 u25 u26 : Value) (wx : World), Hid (Blk wx S 26 (outC s.bytes (4 * i + 4))) → Hid (Below S w wx) → Q (.exit 2) ⟨List.toArray (c0 :: c1 :: c2 :: (.pointer (some ⟨S, 0, none⟩)) :: (.int .i64 (i : Int)) :: (.int .u32 ((s.list.getD i 0 : Nat) : Int)) :: u6 :: c7 :: c8 :: c9 :: c10 :: c11 :: (.int .i64 4) :: u13 :: u14 :: u15 :: u16 :: u17 :: u18 :: u19 :: u20 :: u21 :: u22 :: u23 :: u24 :: u25 :: u26 :: c27 :: c28 :: []), []⟩ wx)) :
    (Code.loop body_sin).wp Tryd.prog Q ⟨List.toArray (c0 :: c1 :: c2 :: (.pointer (some ⟨S, 0, none⟩)) :: (.int .i64 (i : Int)) :: (.int .u32 ((s.list.getD i 0 : Nat) : Int)) :: c6 :: c7 :: c8 :: c9 :: c10 :: c11 :: (.int .i64 0) :: c13 :: c14 :: c15 :: c16 :: c17 :: c18 :: c19 :: c20 :: c21 :: c22 :: c23 :: c24 :: c25 :: c26 :: c27 :: c28 :: []), []⟩ w := by
  have hiI : (i : Int) < 8 := by omega
  unfold body_sin
  conv => arg 2; arg 1; whnf
  go_loopw [12] (fun v wx => SinRel s i w S v wx) (fun v _ => 4 - (intOf v).toNat)
  case atStart => exact ⟨0, rfl, by omega, h0.out, Below.refl _ _⟩
  case round =>
    obtain ⟨j, rfl, hj, hblk, bl⟩ := hrel
    by_cases hlt : j < 4
    · have hI : (j : Int) < 4 := by omega
      obtain ⟨n, hn⟩ : ∃ n, n = s.list.getD i 0 := ⟨_, rfl⟩
      rw [← hn] at HQ ⊢
      have hil : i < s.list.length := hi
      have n32 : n < 4294967296 := by
        have e : n = s.list[i] := by rw [hn]; simp [hil]
        rw [e]
        exact list_lt hs.out _ (List.getElem_mem hil)
      have hb : s.bytes[4 * i + j]? = some (UInt8.ofNat (n / 2 ^ (8 * (3 - j)) % 256)) := by
        rw [St.bytes_flat, flat_get s.list _ (by show 4 * i + j < 4 * 8; omega), show (4 * i + j) / 4 = i by omega, show (4 * i + j) % 4 = j by omega, ← hn]
        exact byte_shift hlt
      have HE := Lib.hid (outC_set (bs := s.bytes) (j := 4 * i + j) (by omega) (St.bytes_length s) hb)
      have f0 : wr.frozen? ⟨S, 4 * i + j, none⟩ = false := hblk.free _
      obtain ⟨u, hu⟩ : ∃ u, wr.cell? ⟨S, 4 * i + j, none⟩ = some u := by
        refine ⟨(outC s.bytes (4 * i + j))[4 * i + j]'?_, ?_⟩
        · simp [outC, St.bytes_length]; omega
        · rw [hblk.cell]; exact List.getElem?_eq_getElem _
      have HB := Lib.hid hblk
      have HL := Lib.hid bl
      have n32' : (n : Int) ≤ 4294967295 := by omega
      have j1 : (i : Int) * 4 + (j : Int) < 32 := by omega
      have j2 : (0 : Int) ≤ (3 - (j : Int)) * 8 := by omega
      have j3 : ((i : Int) * 4 + (j : Int)).toNat = 4 * i + j := by omega
      have j4 : ((8 : Int) * (3 - (j : Int))).toNat = 8 * (3 - j) := by omega
      have j5 : (8 : Int) * (3 - (j : Int)) < 32 := by omega
      clear hblk bl hn hb hil
      go_wp2_with (fail)
      go_roundw
      case rel =>
        have e : Value.int .u8 ((n : Int) / 2 ^ (8 * (3 - j)) % 256) = bv (UInt8.ofNat (n / 2 ^ (8 * (3 - j)) % 256)) := by
          unfold bv
          rw [UInt8.toNat_ofNat', Nat.mod_mod_of_dvd _ (by decide)]
          exact congrArg (Value.int .u8) (by simp)
        rw [e]
        have h := HB.out.set (4 * i + j) (bv (UInt8.ofNat (n / 2 ^ (8 * (3 - j)) % 256)))
        rw [HE.out] at h
        exact ⟨j + 1, by go_num, by omega, h, HL.out.setCell (p := ⟨S, 4 * i + j, none⟩) (Nat.le_refl _) _⟩
      case measure => simp [intOf]; omega
    · obtain rfl : j = 4 := by omega
      have HB := Lib.hid hblk
      have HL := Lib.hid bl
      clear hblk bl
      go_wp2_with (fail)
      exact HQ.out _ _ _ _ _ _ _ _ _ _ _ _ _ _ _ _ HB HL
end Go.Proofs.YtpjidfcbckndfaaDoor
