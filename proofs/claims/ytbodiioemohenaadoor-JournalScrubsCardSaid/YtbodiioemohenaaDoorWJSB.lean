/- JournalScrubs' second loop: all bytes of two disks, one but for the numbers of the slots. Condition: they are. -/
import Derived.Test.YtbodiioemohenaaDoorJnRaw
import Derived.Test.YtbodiioemohenaaDoorPart19
import Derived.BigQuiet
namespace Go.Proofs.YtbodiioemohenaaDoor
open Go.RowKit

noncomputable def body_jsb : Code := (((Tryd.f4.body.map loopsOf).getD [])[1]?).getD .skip
set_option maxRecDepth 100000 in
set_option maxHeartbeats 4000000 in
theorem jsb_loop (c0 c1 c2 c3 c4 c5 c6 c7 c8 c9 c10 c11 c15 c16 c17 c18 c19 c20 c21 c22 c23 c24 c25 c26 c27 c28 c29 c30 c31 c32 c33 c34 c35 c36 c37 c38 c39 c40 c41 c42 c43 c44 c45 c46 c47 c48 c49 c50 c51 c52 c53 c54 c55 c56 c57 c58 c59 c60 c61 c62 c63 c64 c65 c66 c67 c68 c69 c70 c71 c72 c73 c74 c75 c76 c77 c78 c79 c80 c81 c82 c83 c84 c85 c86 c87 c88 c89 c90 c91 c92 c93 c94 c95 c96 c97 c98 c99 c100 c101 c102 c103 c104 c105 c106 c107 c108 c109 c110 c111 c112 c113 c114 c115 : Value) (xs ys : List UInt8) (va vb : Value) (W0 : World) (hx : Hid (xs.length = 131072 ∧ ys.length = 131072)) (ha : Hid (Rd W0 va xs)) (hb : Hid (Rd W0 vb ys)) (hq : Hid (∀ i, i < 131072 → 8 ≤ i % 128 → xs[i]? = ys[i]?)) {Q : Exit → Act → World → Prop}
    (HQ : Hid (∀ (u4 u15 u73 u74 u75 u76 u77 u78 u79 u80 u81 u82 u83 u84 u85 u86 u87 u88 u89 u90 u91 u92 u93 u94 u95 u96 u97 u98 u99 u100 u101 u102 u103 u104 u105 u106 u107 u108 v : Value) (n : Nat), Q (.exit 2) ⟨List.toArray (c0 :: c1 :: c2 :: c3 :: u4 :: c5 :: c6 :: c7 :: c8 :: c9 :: c10 :: c11 :: va :: vb :: v :: u15 :: c16 :: c17 :: c18 :: c19 :: c20 :: c21 :: c22 :: c23 :: c24 :: c25 :: c26 :: c27 :: c28 :: c29 :: c30 :: c31 :: c32 :: c33 :: c34 :: c35 :: c36 :: c37 :: c38 :: c39 :: c40 :: c41 :: c42 :: c43 :: c44 :: c45 :: c46 :: c47 :: c48 :: c49 :: c50 :: c51 :: c52 :: c53 :: c54 :: c55 :: c56 :: c57 :: c58 :: c59 :: c60 :: c61 :: c62 :: c63 :: c64 :: c65 :: c66 :: c67 :: c68 :: c69 :: c70 :: c71 :: c72 :: u73 :: u74 :: u75 :: u76 :: u77 :: u78 :: u79 :: u80 :: u81 :: u82 :: u83 :: u84 :: u85 :: u86 :: u87 :: u88 :: u89 :: u90 :: u91 :: u92 :: u93 :: u94 :: u95 :: u96 :: u97 :: u98 :: u99 :: u100 :: u101 :: u102 :: u103 :: u104 :: u105 :: u106 :: u107 :: u108 :: c109 :: c110 :: c111 :: c112 :: c113 :: c114 :: c115 :: []), []⟩ (W0.drewN n))) :
    (Code.loop body_jsb).wp Tryd.prog Q ⟨List.toArray (c0 :: c1 :: c2 :: c3 :: c4 :: c5 :: c6 :: c7 :: c8 :: c9 :: c10 :: c11 :: va :: vb :: (.int .i64 0) :: c15 :: c16 :: c17 :: c18 :: c19 :: c20 :: c21 :: c22 :: c23 :: c24 :: c25 :: c26 :: c27 :: c28 :: c29 :: c30 :: c31 :: c32 :: c33 :: c34 :: c35 :: c36 :: c37 :: c38 :: c39 :: c40 :: c41 :: c42 :: c43 :: c44 :: c45 :: c46 :: c47 :: c48 :: c49 :: c50 :: c51 :: c52 :: c53 :: c54 :: c55 :: c56 :: c57 :: c58 :: c59 :: c60 :: c61 :: c62 :: c63 :: c64 :: c65 :: c66 :: c67 :: c68 :: c69 :: c70 :: c71 :: c72 :: c73 :: c74 :: c75 :: c76 :: c77 :: c78 :: c79 :: c80 :: c81 :: c82 :: c83 :: c84 :: c85 :: c86 :: c87 :: c88 :: c89 :: c90 :: c91 :: c92 :: c93 :: c94 :: c95 :: c96 :: c97 :: c98 :: c99 :: c100 :: c101 :: c102 :: c103 :: c104 :: c105 :: c106 :: c107 :: c108 :: c109 :: c110 :: c111 :: c112 :: c113 :: c114 :: c115 :: []), []⟩ W0 := by
  obtain ⟨A, c, rfl, hc1, hc2, hA⟩ := ha.out.form
  obtain ⟨B, d, rfl, hd1, hd2, hB⟩ := hb.out.form
  have HA := Lib.hid hA
  have HB := Lib.hid hB
  clear hA hB hc1 hc2 hd1 hd2
  unfold body_jsb
  conv => arg 2; arg 1; whnf
  go_loopw [14] (fun v wx => ∃ i n : Nat, i ≤ xs.length ∧ v = .int .i64 (i : Int) ∧ wx = W0.drewN n) (fun v _ => xs.length - (intOf v).toNat)
  case atStart => exact ⟨0, 0, Nat.zero_le _, rfl, rfl⟩
  case round =>
    obtain ⟨i, n, hi, rfl, rfl⟩ := hrel
    have nI : (xs.length : Int) ≤ 131072 := by have := hx.out.1; omega
    by_cases hlt : i < xs.length
    · have hI : (i : Int) < xs.length := by omega
      have hJ : (i : Int) < ys.length := by have := hx.out; omega
      obtain ⟨r, hr⟩ : ∃ r : Nat, r = i % 128 := ⟨_, rfl⟩
      have er : Int.tmod (i : Int) 128 = (r : Int) := by rw [hr]; rfl
      by_cases h8 : 8 ≤ r
      · have e8 : decide ((8 : Int) ≤ (r : Int)) = true := decide_eq_true (by omega)
        have hlt' : i < ys.length := by omega
        obtain ⟨b, off, rfl, hb1, hb2⟩ := HA.out (by omega)
        obtain ⟨b', off', rfl, hb1', hb2'⟩ := HB.out (by omega)
        have c1 := hb2 i hlt
        have c2 := hb2' i hlt'
        have he : xs[i] = ys[i] := by
          have h := hq.out i (by have := hx.out.1; omega) (by omega)
          rw [List.getElem?_eq_getElem hlt, List.getElem?_eq_getElem hlt'] at h
          exact Option.some.inj h
        rw [← he] at c2
        obtain ⟨y, hy⟩ : ∃ y : Nat, y = xs[i].toNat := ⟨_, rfl⟩
        rw [← hy] at c1 c2
        have k1 : ((y : Int) != (y : Int)) = false := by simp
        have HI := Lib.hid hlt
        clear hb2 hb2' hb1 hb1' he hy hr h8 hlt hlt' hi
        go_wp2
        go_quiet (fail)
        go_wp2
        go_roundw
        case rel => exact ⟨i + 1, _, HI.out, by go_num, rfl⟩
        case measure => have := HI.out; simp [intOf]; omega
      · have e8 : decide ((8 : Int) ≤ (r : Int)) = false := decide_eq_false (by omega)
        have HI := Lib.hid hlt
        clear hr h8 hlt hi
        go_wp2
        go_quiet (fail)
        go_wp2
        go_roundw
        case rel => exact ⟨i + 1, _, HI.out, by go_num, rfl⟩
        case measure => have := HI.out; simp [intOf]; omega
    · have hI : ¬ (i : Int) < xs.length := by omega
      clear hlt hi
      go_wp2
      exact HQ.out _ _ _ _ _ _ _ _ _ _ _ _ _ _ _ _ _ _ _ _ _ _ _ _ _ _ _ _ _ _ _ _ _ _ _ _ _ _ _ _
end Go.Proofs.YtbodiioemohenaaDoor
