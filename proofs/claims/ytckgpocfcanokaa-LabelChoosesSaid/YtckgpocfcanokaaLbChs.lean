/- The fifteenth reference's Chooses. Condition: at most 20 labels, at most 20 questions. -/
import Derived.Test.YtckgpocfcanokaaLbRow
import Derived.Test.YtckgpocfcanokaaLbWrd
import Derived.Test.YtckgpocfcanokaaKept
import Derived.BigQuiet
import Derived.Deep.Cut
namespace Go.Proofs.Ytckgpocfcanokaa
open Go.RowKit

def sameF (q l : Qu) : Bool := decide (l.n.toList = q.n.toList) && decide (l.v.toList = q.v.toList)
def begF (q l : Qu) : Bool := decide (l.n.toList = q.n.toList) && q.v.toList.isPrefixOf l.v.toList
theorem any_take {f : Qu → Bool} {ls : List Qu} {k : Nat} {l : Qu} (h : ls[k]? = some l) : (ls.take (k + 1)).any f = ((ls.take k).any f || f l) := by
  obtain ⟨hk, e⟩ := List.getElem?_eq_some_iff.1 h
  rw [List.take_succ_eq_append_getElem hk, e, List.any_append]
  simp
theorem extract_list (s : ByteArray) (n : Nat) (_h : n ≤ s.size) : (s.extract 0 n).toList = s.toList.take n := by
  rw [ByteArray.toList_eq, ByteArray.toList_eq, ByteArray.data_extract, Array.toList_extract]
  simp [List.extract]
theorem prefix_iff (x l : List UInt8) : x.isPrefixOf l = (decide (x.length ≤ l.length) && decide (l.take x.length = x)) := by
  rw [Bool.eq_iff_iff, List.isPrefixOf_iff_prefix, Bool.and_eq_true, decide_eq_true_eq, decide_eq_true_eq, List.prefix_iff_eq_take]
  constructor
  · intro h
    refine ⟨?_, h.symm⟩
    have h2 := congrArg List.length h
    rw [List.length_take] at h2
    omega
  · exact fun h => h.2.symm
theorem dec_beq (a b : List UInt8) : decide (a = b) = (a == b) := by
  by_cases h : a = b
  · rw [decide_eq_true h, beq_iff_eq.2 h]
  · rw [decide_eq_false h, beq_eq_false_iff_ne.2 h]
noncomputable def body_lci : Code := (((Try.f14.body.map loopsOf).getD [])[1]?).getD .skip
set_option maxRecDepth 100000 in
set_option maxHeartbeats 4000000 in
theorem lci_loop (c0 c1 c2 c4 c5 c10 c11 c12 c13 c14 c15 c16 c17 c18 c19 c20 c21 c22 c23 c24 c25 c26 c27 c28 c29 c30 c31 c32 c33 c34 c35 c36 c37 c38 c39 c40 c41 c42 c43 c44 c45 c46 c47 c48 c49 c50 c51 c52 c53 c54 c55 c56 c57 c58 c59 c60 c61 c62 c63 c64 c65 c66 c67 c68 c69 c70 c71 c72 c73 c74 c75 c76 c77 c78 c79 c80 c81 c82 c83 c84 c85 c86 c87 c88 c89 c90 c91 c92 c93 c94 c95 c96 c97 c98 c99 c100 c101 c102 c103 c104 c105 c106 c107 c108 c109 c110 c111 c112 : Value) (A : Option Addr) (c X Z : Nat) (n : ByteArray) (q : Qu) (ls : List Qu) (w : World) (hx : Hid (Blk w X 24 [.string n, .slice A ls.length c])) (hz : Hid (Blk w Z 41 (quV q))) (hr : Hid (RsLb w (.slice A ls.length c) ls)) (hn : Hid (ls.length ≤ 20)) (hq : Hid (q.v.size ≤ maxLen)) {Q : Exit → Act → World → Prop}
    (HQ : Hid (∀ (u10 u33 u34 u35 u36 u37 u38 u39 u40 u41 u42 u43 u44 u45 u46 u47 u48 u49 u50 u51 u52 u53 u54 u55 u56 u57 u58 u59 u60 u61 u62 u63 u64 u65 u66 u67 u68 u69 u70 u71 u72 u73 u74 u75 u76 u77 u78 y : Value) (w' : World), Hid (Below w.heap.size w w') → Q (.exit 2) ⟨List.toArray (c0 :: c1 :: c2 :: (.pointer (some ⟨X, 0, none⟩)) :: c4 :: c5 :: (.pointer (some ⟨Z, 0, none⟩)) :: (.bool (ls.any (sameF q))) :: (.bool (ls.any (begF q))) :: y :: u10 :: c11 :: c12 :: c13 :: c14 :: c15 :: c16 :: c17 :: c18 :: c19 :: c20 :: c21 :: c22 :: c23 :: c24 :: c25 :: c26 :: c27 :: c28 :: c29 :: c30 :: c31 :: c32 :: u33 :: u34 :: u35 :: u36 :: u37 :: u38 :: u39 :: u40 :: u41 :: u42 :: u43 :: u44 :: u45 :: u46 :: u47 :: u48 :: u49 :: u50 :: u51 :: u52 :: u53 :: u54 :: u55 :: u56 :: u57 :: u58 :: u59 :: u60 :: u61 :: u62 :: u63 :: u64 :: u65 :: u66 :: u67 :: u68 :: u69 :: u70 :: u71 :: u72 :: u73 :: u74 :: u75 :: u76 :: u77 :: u78 :: c79 :: c80 :: c81 :: c82 :: c83 :: c84 :: c85 :: c86 :: c87 :: c88 :: c89 :: c90 :: c91 :: c92 :: c93 :: c94 :: c95 :: c96 :: c97 :: c98 :: c99 :: c100 :: c101 :: c102 :: c103 :: c104 :: c105 :: c106 :: c107 :: c108 :: c109 :: c110 :: c111 :: c112 :: []), []⟩ w')) :
    (Code.loop body_lci).wp Try.prog Q ⟨List.toArray (c0 :: c1 :: c2 :: (.pointer (some ⟨X, 0, none⟩)) :: c4 :: c5 :: (.pointer (some ⟨Z, 0, none⟩)) :: (.bool false) :: (.bool false) :: (.int .i64 0) :: c10 :: c11 :: c12 :: c13 :: c14 :: c15 :: c16 :: c17 :: c18 :: c19 :: c20 :: c21 :: c22 :: c23 :: c24 :: c25 :: c26 :: c27 :: c28 :: c29 :: c30 :: c31 :: c32 :: c33 :: c34 :: c35 :: c36 :: c37 :: c38 :: c39 :: c40 :: c41 :: c42 :: c43 :: c44 :: c45 :: c46 :: c47 :: c48 :: c49 :: c50 :: c51 :: c52 :: c53 :: c54 :: c55 :: c56 :: c57 :: c58 :: c59 :: c60 :: c61 :: c62 :: c63 :: c64 :: c65 :: c66 :: c67 :: c68 :: c69 :: c70 :: c71 :: c72 :: c73 :: c74 :: c75 :: c76 :: c77 :: c78 :: c79 :: c80 :: c81 :: c82 :: c83 :: c84 :: c85 :: c86 :: c87 :: c88 :: c89 :: c90 :: c91 :: c92 :: c93 :: c94 :: c95 :: c96 :: c97 :: c98 :: c99 :: c100 :: c101 :: c102 :: c103 :: c104 :: c105 :: c106 :: c107 :: c108 :: c109 :: c110 :: c111 :: c112 :: []), []⟩ w := by
  unfold body_lci
  conv => arg 2; arg 1; whnf
  go_loopw [7, 8, 9] (fun a b y wx => ∃ (k : Nat) (sm bg : Bool), y = .int .i64 (k : Int) ∧ a = .bool sm ∧ b = .bool bg ∧ k ≤ ls.length ∧ sm = (ls.take k).any (sameF q) ∧ bg = (ls.take k).any (begF q) ∧ Below w.heap.size w wx) (fun _ _ y _ => ls.length - (intOf y).toNat)
  case atStart => exact ⟨0, false, false, rfl, rfl, rfl, Nat.zero_le _, rfl, rfl, Below.refl _ _⟩
  case round =>
    obtain ⟨k, sm, bg, rfl, rfl, rfl, hk, hsm, hbg, hbw⟩ := hrel
    have HBW := Lib.hid hbw
    have HSM := Lib.hid hsm
    have HBG := Lib.hid hbg
    have hl := hn.out
    have b1 : wr.cell? ⟨X, 1, none⟩ = some (.slice A ls.length c) := by rw [hbw.cell (p := ⟨X, 1, none⟩) hx.out.lt, hx.out.cell]; rfl
    have pI : (ls.length : Int) ≤ 20 := by omega
    by_cases hlt : k < ls.length
    · have jI : (k : Int) < ls.length := by omega
      have HLT := Lib.hid hlt
      obtain ⟨l, hll⟩ : ∃ l, ls[k]? = some l := ⟨_, List.getElem?_eq_getElem hlt⟩
      have HA1 := Lib.hid (any_take (f := sameF q) hll)
      have HA2 := Lib.hid (any_take (f := begF q) hll)
      obtain ⟨hs1, hs2, _⟩ := hr.out.ok l (List.mem_of_getElem? hll)
      have hqs := hq.out
      unfold maxLen at hs1 hs2 hqs
      obtain ⟨g, o, rfl⟩ := hr.out.addr hll
      have hgl : g < w.heap.size := by
        obtain ⟨g', o', he, h, _⟩ := hr.out.row.at' (i := k) (r := lbV l) (by rw [List.getElem?_map, hll]; rfl)
        injection he with he
        injection he with he _ _
        rw [he]
        exact h
      obtain ⟨_, q0, q1⟩ := hr.out.cells hll
      have z0 : w.cell? ⟨Z, 0, none⟩ = some (.string q.n) := by rw [hz.out.cell]; rfl
      have z2 : w.cell? ⟨Z, 2, none⟩ = some (.string q.v) := by rw [hz.out.cell]; rfl
      obtain ⟨s, g0, u⟩ := l
      obtain ⟨qn, qg, qv⟩ := q
      simp only at q0 q1 z0 z2 hs1 hs2 hqs
      obtain ⟨W1, hW1⟩ : ∃ W : World, W = wr.alloc (.cells #[.string s, .string u] 39) := ⟨_, rfl⟩
      have B1 : Hid (Below w.heap.size w W1) := Lib.hid (by rw [hW1]; exact hbw.alloc hbw.size _)
      have p0 : wr.cell? ⟨g, o + k * 2, none⟩ = some (.string s) := by rw [hbw.cell (p := ⟨g, o + k * 2, none⟩) hgl]; exact q0
      have p1 : wr.cell? ⟨g, o + k * 2 + 1, none⟩ = some (.string u) := by rw [hbw.cell (p := ⟨g, o + k * 2 + 1, none⟩) hgl]; exact q1
      have zw0 : W1.cell? ⟨Z, 0, none⟩ = some (.string qn) := by rw [B1.out.cell (p := ⟨Z, 0, none⟩) hz.out.lt]; exact z0
      have zw2 : W1.cell? ⟨Z, 2, none⟩ = some (.string qv) := by rw [B1.out.cell (p := ⟨Z, 2, none⟩) hz.out.lt]; exact z2
      have LB : Hid (Blk W1 wr.heap.size 39 [.string s, .string u]) := Lib.hid (by rw [hW1]; exact Blk.made wr _ _)
      have l0 : W1.cell? ⟨wr.heap.size, 0, none⟩ = some (.string s) := by rw [LB.out.cell]; rfl
      have l1 : W1.cell? ⟨wr.heap.size, 1, none⟩ = some (.string u) := by rw [LB.out.cell]; rfl
      have HW1 := Lib.hid hW1
      obtain ⟨eN, heN⟩ : ∃ eN, (s.toList == qn.toList) = eN := ⟨_, rfl⟩
      have neN : (s.toList != qn.toList) = !eN := by rw [bne, heN]
      obtain ⟨eV, heV⟩ : ∃ eV, (u.toList == qv.toList) = eV := ⟨_, rfl⟩
      have HF1 : Hid (sameF ⟨qn, qg, qv⟩ ⟨s, g0, u⟩ = (eN && eV)) := Lib.hid (by unfold sameF; rw [dec_beq, dec_beq, heN, heV])
      obtain ⟨le, hle⟩ : ∃ le, decide ((qv.size : Int) ≤ (u.size : Int)) = le := ⟨_, rfl⟩
      obtain ⟨eP, heP⟩ : ∃ eP, ((u.extract 0 qv.size).toList == qv.toList) = eP := ⟨_, rfl⟩
      have HF2 : Hid (begF ⟨qn, qg, qv⟩ ⟨s, g0, u⟩ = (eN && (le && eP))) := Lib.hid (by
        unfold begF
        rw [dec_beq, heN, prefix_iff]
        congr 1
        have e1 : decide (qv.toList.length ≤ u.toList.length) = le := by
          rw [← hle, bl_size, bl_size]
          by_cases h : qv.size ≤ u.size
          · rw [decide_eq_true h, decide_eq_true (by omega)]
          · rw [decide_eq_false h, decide_eq_false (by omega)]
        rw [e1]
        cases hle2 : le with
        | false => rfl
        | true =>
          have h3 : qv.size ≤ u.size := by
            rw [hle2] at hle
            have := of_decide_eq_true hle
            omega
          rw [Bool.true_and, Bool.true_and, ← heP, extract_list u qv.size h3, dec_beq, bl_size])
      have uI : (u.size : Int) ≤ 9223372036854775807 := by omega
      have vI : (qv.size : Int) ≤ 9223372036854775807 := by omega
      clear hll hs1 hs2 hqs hgl q0 q1 z0 z2 hW1 hk hlt hl hsm hbg hbw
      cases eN with
      | false =>
        go_upto_region 12 with (fail)
        rw [← HW1.out]
        go_wp2_with (fail)
        refine ⟨⟨k + 1, _, _, by go_num, by rfl, by rfl, HLT.out, by rw [HA1.out, HF1.out, ← HSM.out]; first | rfl | simp, by rw [HA2.out, HF2.out, ← HBG.out]; first | rfl | simp, B1.out⟩, by simp [intOf]; omega⟩
      | true =>
        cases sm with
        | false =>
          cases bg with
          | true =>
            go_upto_region 12 with (fail)
            rw [← HW1.out]
            go_wp2_with (fail)
            go_quiet (fail)
            go_wp2_with (fail)
            refine ⟨⟨k + 1, _, _, by go_num, by rfl, by rfl, HLT.out, by rw [HA1.out, HF1.out, ← HSM.out]; first | rfl | simp, by rw [HA2.out, HF2.out, ← HBG.out]; first | rfl | simp, below_drewN B1.out _⟩, by simp [intOf]; omega⟩
          | false =>
            cases le with
            | false =>
              have hle2 := of_decide_eq_false hle
              have hle3 : decide (qv.size ≤ u.size) = false := decide_eq_false (by omega)
              clear hle2
              go_upto_region 12 with (fail)
              rw [← HW1.out]
              go_wp2_with (fail)
              go_quiet (fail)
              go_wp2_with (fail)
              refine ⟨⟨k + 1, _, _, by go_num, by rfl, by rfl, HLT.out, by rw [HA1.out, HF1.out, ← HSM.out]; first | rfl | simp, by rw [HA2.out, HF2.out, ← HBG.out]; first | rfl | simp, below_drewN B1.out _⟩, by simp [intOf]; omega⟩
            | true =>
              have hle2 := of_decide_eq_true hle
              have hle4 : qv.size ≤ u.size := by omega
              have hle3 : decide (qv.size ≤ u.size) = true := decide_eq_true hle4
              go_upto_region 12 with (fail)
              rw [← HW1.out]
              go_wp2_with (fail)
              go_quiet (fail)
              go_wp2_with (fail)
              refine ⟨⟨k + 1, _, _, by go_num, by rfl, by rfl, HLT.out, by rw [HA1.out, HF1.out, ← HSM.out]; first | rfl | simp, by rw [HA2.out, HF2.out, ← HBG.out]; first | rfl | simp, below_drewN B1.out _⟩, by simp [intOf]; omega⟩
        | true =>
          cases bg with
          | true =>
            go_upto_region 12 with (fail)
            rw [← HW1.out]
            go_wp2_with (fail)
            go_quiet (fail)
            go_wp2_with (fail)
            refine ⟨⟨k + 1, _, _, by go_num, by rfl, by rfl, HLT.out, by rw [HA1.out, HF1.out, ← HSM.out]; first | rfl | simp, by rw [HA2.out, HF2.out, ← HBG.out]; first | rfl | simp, below_drewN B1.out _⟩, by simp [intOf]; omega⟩
          | false =>
            cases le with
            | false =>
              have hle2 := of_decide_eq_false hle
              have hle3 : decide (qv.size ≤ u.size) = false := decide_eq_false (by omega)
              clear hle2
              go_upto_region 12 with (fail)
              rw [← HW1.out]
              go_wp2_with (fail)
              go_quiet (fail)
              go_wp2_with (fail)
              refine ⟨⟨k + 1, _, _, by go_num, by rfl, by rfl, HLT.out, by rw [HA1.out, HF1.out, ← HSM.out]; first | rfl | simp, by rw [HA2.out, HF2.out, ← HBG.out]; first | rfl | simp, below_drewN B1.out _⟩, by simp [intOf]; omega⟩
            | true =>
              have hle2 := of_decide_eq_true hle
              have hle4 : qv.size ≤ u.size := by omega
              have hle3 : decide (qv.size ≤ u.size) = true := decide_eq_true hle4
              go_upto_region 12 with (fail)
              rw [← HW1.out]
              go_wp2_with (fail)
              go_quiet (fail)
              go_wp2_with (fail)
              refine ⟨⟨k + 1, _, _, by go_num, by rfl, by rfl, HLT.out, by rw [HA1.out, HF1.out, ← HSM.out]; first | rfl | simp, by rw [HA2.out, HF2.out, ← HBG.out]; first | rfl | simp, below_drewN B1.out _⟩, by simp [intOf]; omega⟩
    · have k1 : decide ((k : Int) < ls.length) = false := decide_eq_false (by omega)
      have k2 : decide (k < ls.length) = false := decide_eq_false hlt
      rw [List.take_of_length_le (by omega)] at hsm hbg
      subst hsm hbg
      clear hk hlt hl hbw
      go_wp2_with (fail)
      exact HQ.out _ _ _ _ _ _ _ _ _ _ _ _ _ _ _ _ _ _ _ _ _ _ _ _ _ _ _ _ _ _ _ _ _ _ _ _ _ _ _ _ _ _ _ _ _ _ _ _ _ HBW
theorem says_eq (ls : List Qu) (q : Qu) : saysB ls q = if q.g = 0 then ls.any (sameF q) else if q.g = 1 then !(ls.any (sameF q)) else if q.g = 2 then ls.any (begF q) else false := rfl
theorem all_take {f : Qu → Bool} {qs : List Qu} {k : Nat} {q : Qu} (h : qs[k]? = some q) (ha : (qs.take k).all f = true) (hf : f q = true) : (qs.take (k + 1)).all f = true := by
  obtain ⟨hk, e⟩ := List.getElem?_eq_some_iff.1 h
  rw [List.take_succ_eq_append_getElem hk, e, List.all_append, ha]
  simp [hf]
theorem all_no {f : Qu → Bool} {qs : List Qu} {k : Nat} {q : Qu} (h : qs[k]? = some q) (hf : f q = false) : qs.all f = false := by
  cases h2 : qs.all f with
  | false => rfl
  | true =>
    have h3 := List.all_eq_true.1 h2 q (List.mem_of_getElem? h)
    rw [hf] at h3
    cases h3
noncomputable def body_lco : Code := (((Try.f14.body.map loopsOf).getD [])[0]?).getD .skip
set_option maxRecDepth 100000 in
set_option maxHeartbeats 8000000 in
theorem lco_loop (c0 c1 c4 c6 c7 c8 c9 c10 c11 c12 c13 c14 c15 c16 c17 c18 c19 c20 c21 c22 c23 c24 c25 c26 c27 c28 c29 c30 c31 c32 c33 c34 c35 c36 c37 c38 c39 c40 c41 c42 c43 c44 c45 c46 c47 c48 c49 c50 c51 c52 c53 c54 c55 c56 c57 c58 c59 c60 c61 c62 c63 c64 c65 c66 c67 c68 c69 c70 c71 c72 c73 c74 c75 c76 c77 c78 c79 c80 c81 c82 c83 c84 c85 c86 c87 c88 c89 c90 c91 c92 c93 c94 c95 c96 c97 c98 c99 c100 c101 c102 c103 c104 c105 c106 c107 c108 c109 c110 c111 c112 : Value) (A B : Option Addr) (c c2 X Y : Nat) (n m : ByteArray) (ls qs : List Qu) (w : World) (hx : Hid (Blk w X 24 [.string n, .slice A ls.length c])) (hy : Hid (Blk w Y 28 [.string m, .slice B qs.length c2])) (hr : Hid (RsLb w (.slice A ls.length c) ls)) (hq : Hid (RsQu w (.slice B qs.length c2) qs)) (hn : Hid (ls.length ≤ 20 ∧ qs.length ≤ 20)) {Q : Exit → Act → World → Prop}
    (HQ : Hid (∀ (u4 u6 u7 u8 u9 u10 u21 u22 u23 u24 u25 u26 u27 u28 u29 u30 u31 u32 u33 u34 u35 u36 u37 u38 u39 u40 u41 u42 u43 u44 u45 u46 u47 u48 u49 u50 u51 u52 u53 u54 u55 u56 u57 u58 u59 u60 u61 u62 u63 u64 u65 u66 u67 u68 u69 u70 u71 u72 u73 u74 u75 u76 u77 u78 u79 u80 u81 u82 u83 u84 u85 u86 u87 u88 u89 u90 u91 u92 u93 u94 u95 u96 u97 u98 u99 u100 u101 u102 u103 u104 u105 u106 u107 u108 u109 u110 u111 u112 y : Value) (w' : World), Hid (qs.all (saysB ls) = true) → Hid (Below w.heap.size w w') → Q (.exit 0) ⟨List.toArray (c0 :: c1 :: (.pointer (some ⟨Y, 0, none⟩)) :: (.pointer (some ⟨X, 0, none⟩)) :: u4 :: y :: u6 :: u7 :: u8 :: u9 :: u10 :: c11 :: c12 :: c13 :: c14 :: c15 :: c16 :: c17 :: c18 :: c19 :: c20 :: u21 :: u22 :: u23 :: u24 :: u25 :: u26 :: u27 :: u28 :: u29 :: u30 :: u31 :: u32 :: u33 :: u34 :: u35 :: u36 :: u37 :: u38 :: u39 :: u40 :: u41 :: u42 :: u43 :: u44 :: u45 :: u46 :: u47 :: u48 :: u49 :: u50 :: u51 :: u52 :: u53 :: u54 :: u55 :: u56 :: u57 :: u58 :: u59 :: u60 :: u61 :: u62 :: u63 :: u64 :: u65 :: u66 :: u67 :: u68 :: u69 :: u70 :: u71 :: u72 :: u73 :: u74 :: u75 :: u76 :: u77 :: u78 :: u79 :: u80 :: u81 :: u82 :: u83 :: u84 :: u85 :: u86 :: u87 :: u88 :: u89 :: u90 :: u91 :: u92 :: u93 :: u94 :: u95 :: u96 :: u97 :: u98 :: u99 :: u100 :: u101 :: u102 :: u103 :: u104 :: u105 :: u106 :: u107 :: u108 :: u109 :: u110 :: u111 :: u112 :: []), []⟩ w'))
    (HE : Hid (∀ (u6 u7 u8 u9 u10 u21 u22 u23 u24 u25 u26 u27 u28 u29 u30 u31 u32 u33 u34 u35 u36 u37 u38 u39 u40 u41 u42 u43 u44 u45 u46 u47 u48 u49 u50 u51 u52 u53 u54 u55 u56 u57 u58 u59 u60 u61 u62 u63 u64 u65 u66 u67 u68 u69 u70 u71 u72 u73 u74 u75 u76 u77 u78 u79 u80 u81 u82 u83 u84 u85 u86 u87 u88 u89 u90 u91 u92 u93 u94 u95 u96 u97 u98 u99 u100 u101 u102 u103 u104 u105 u106 u107 u108 u109 u110 u111 u112 y : Value) (w' : World), Hid (qs.all (saysB ls) = false) → Hid (Below w.heap.size w w') → Q .ret ⟨List.toArray (c0 :: c1 :: (.pointer (some ⟨Y, 0, none⟩)) :: (.pointer (some ⟨X, 0, none⟩)) :: (.bool false) :: y :: u6 :: u7 :: u8 :: u9 :: u10 :: c11 :: c12 :: c13 :: c14 :: c15 :: c16 :: c17 :: c18 :: c19 :: c20 :: u21 :: u22 :: u23 :: u24 :: u25 :: u26 :: u27 :: u28 :: u29 :: u30 :: u31 :: u32 :: u33 :: u34 :: u35 :: u36 :: u37 :: u38 :: u39 :: u40 :: u41 :: u42 :: u43 :: u44 :: u45 :: u46 :: u47 :: u48 :: u49 :: u50 :: u51 :: u52 :: u53 :: u54 :: u55 :: u56 :: u57 :: u58 :: u59 :: u60 :: u61 :: u62 :: u63 :: u64 :: u65 :: u66 :: u67 :: u68 :: u69 :: u70 :: u71 :: u72 :: u73 :: u74 :: u75 :: u76 :: u77 :: u78 :: u79 :: u80 :: u81 :: u82 :: u83 :: u84 :: u85 :: u86 :: u87 :: u88 :: u89 :: u90 :: u91 :: u92 :: u93 :: u94 :: u95 :: u96 :: u97 :: u98 :: u99 :: u100 :: u101 :: u102 :: u103 :: u104 :: u105 :: u106 :: u107 :: u108 :: u109 :: u110 :: u111 :: u112 :: []), []⟩ w')) :
    (Code.loop body_lco).wp Try.prog Q ⟨List.toArray (c0 :: c1 :: (.pointer (some ⟨Y, 0, none⟩)) :: (.pointer (some ⟨X, 0, none⟩)) :: c4 :: (.int .i64 0) :: c6 :: c7 :: c8 :: c9 :: c10 :: c11 :: c12 :: c13 :: c14 :: c15 :: c16 :: c17 :: c18 :: c19 :: c20 :: c21 :: c22 :: c23 :: c24 :: c25 :: c26 :: c27 :: c28 :: c29 :: c30 :: c31 :: c32 :: c33 :: c34 :: c35 :: c36 :: c37 :: c38 :: c39 :: c40 :: c41 :: c42 :: c43 :: c44 :: c45 :: c46 :: c47 :: c48 :: c49 :: c50 :: c51 :: c52 :: c53 :: c54 :: c55 :: c56 :: c57 :: c58 :: c59 :: c60 :: c61 :: c62 :: c63 :: c64 :: c65 :: c66 :: c67 :: c68 :: c69 :: c70 :: c71 :: c72 :: c73 :: c74 :: c75 :: c76 :: c77 :: c78 :: c79 :: c80 :: c81 :: c82 :: c83 :: c84 :: c85 :: c86 :: c87 :: c88 :: c89 :: c90 :: c91 :: c92 :: c93 :: c94 :: c95 :: c96 :: c97 :: c98 :: c99 :: c100 :: c101 :: c102 :: c103 :: c104 :: c105 :: c106 :: c107 :: c108 :: c109 :: c110 :: c111 :: c112 :: []), []⟩ w := by
  unfold body_lco
  conv => arg 2; arg 1; whnf
  go_loopw [5] (fun y wx => ∃ i : Nat, y = .int .i64 (i : Int) ∧ i ≤ qs.length ∧ (qs.take i).all (saysB ls) = true ∧ Below w.heap.size w wx) (fun y _ => qs.length - (intOf y).toNat)
  case atStart => exact ⟨0, rfl, Nat.zero_le _, rfl, Below.refl _ _⟩
  case round =>
    obtain ⟨i, rfl, hi, hall, hbw⟩ := hrel
    have HBW := Lib.hid hbw
    have HALL := Lib.hid hall
    have hl := hn.out.2
    have b1 : wr.cell? ⟨Y, 1, none⟩ = some (.slice B qs.length c2) := by rw [hbw.cell (p := ⟨Y, 1, none⟩) hy.out.lt, hy.out.cell]; rfl
    have pI : (qs.length : Int) ≤ 20 := by omega
    by_cases hlt : i < qs.length
    · have jI : (i : Int) < qs.length := by omega
      have HLT := Lib.hid hlt
      obtain ⟨q, hqq⟩ : ∃ q, qs[i]? = some q := ⟨_, List.getElem?_eq_getElem hlt⟩
      obtain ⟨_, hs2, hs3⟩ := hq.out.ok q (List.mem_of_getElem? hqq)
      obtain ⟨g, o, rfl⟩ := hq.out.addr hqq
      have hgl : g < w.heap.size := by
        obtain ⟨g', o', he, h, _⟩ := hq.out.row.at' (i := i) (r := quV q) (by rw [List.getElem?_map, hqq]; rfl)
        injection he with he
        injection he with he _ _
        rw [he]
        exact h
      obtain ⟨_, q0, q1, q2⟩ := hq.out.cells hqq
      have p0 : wr.cell? ⟨g, o + i * 3, none⟩ = some (.string q.n) := by rw [hbw.cell (p := ⟨g, o + i * 3, none⟩) hgl]; exact q0
      have p1 : wr.cell? ⟨g, o + i * 3 + 1, none⟩ = some (.int .i64 q.g) := by rw [hbw.cell (p := ⟨g, o + i * 3 + 1, none⟩) hgl]; exact q1
      have p2 : wr.cell? ⟨g, o + i * 3 + 2, none⟩ = some (.string q.v) := by rw [hbw.cell (p := ⟨g, o + i * 3 + 2, none⟩) hgl]; exact q2
      obtain ⟨Z, hZ⟩ : ∃ Z, Z = wr.heap.size := ⟨_, rfl⟩
      obtain ⟨W1, hW1⟩ : ∃ W : World, W = wr.alloc (.cells #[.string q.n, .int .i64 q.g, .string q.v] 41) := ⟨_, rfl⟩
      have B1 : Hid (Below w.heap.size w W1) := Lib.hid (by rw [hW1]; exact hbw.alloc hbw.size _)
      have ZB : Hid (Blk W1 Z 41 (quV q)) := Lib.hid (by rw [hW1, hZ]; exact Blk.made wr _ _)
      have XB : Hid (Blk W1 X 24 [.string n, .slice A ls.length c]) := Lib.hid (hx.out.below B1.out hx.out.lt)
      have RB := Lib.hid (hr.out.below B1.out)
      have HYES : Hid (saysB ls q = true → (qs.take (i + 1)).all (saysB ls) = true) := Lib.hid (all_take hqq hall)
      have HNO : Hid (saysB ls q = false → qs.all (saysB ls) = false) := Lib.hid (all_no hqq)
      have HW1 := Lib.hid hW1
      have HS2 := Lib.hid hs2
      have HQQ := Lib.hid hqq
      clear hgl q0 q1 q2 hW1 hi hlt hl hall hbw hs3 hqq hs2
      go_upto_region 7 with (fail)
      rw [← HW1.out, ← hZ]
      clear HW1 hZ p0 p1 p2 b1
      go_wp2_with (fail)
      refine lci_loop _ _ _ _ _ _ _ _ _ _ _ _ _ _ _ _ _ _ _ _ _ _ _ _ _ _ _ _ _ _ _ _ _ _ _ _ _ _ _ _ _ _ _ _ _ _ _ _ _ _ _ _ _ _ _ _ _ _ _ _ _ _ _ _ _ _ _ _ _ _ _ _ _ _ _ _ _ _ _ _ _ _ _ _ _ _ _ _ _ _ _ _ _ _ _ _ _ _ _ _ _ _ _ _ _ _ _ _ A c X Z n q ls W1 XB ZB RB (Lib.hid hn.out.1) HS2 (Lib.hid ?_)
      intro u10 u33 u34 u35 u36 u37 u38 u39 u40 u41 u42 u43 u44 u45 u46 u47 u48 u49 u50 u51 u52 u53 u54 u55 u56 u57 u58 u59 u60 u61 u62 u63 u64 u65 u66 u67 u68 u69 u70 u71 u72 u73 u74 u75 u76 u77 u78 y w2 HB2
      have B2 : Hid (Below w.heap.size w w2) := Lib.hid (B1.out.trans (HB2.out.mono B1.out.size))
      have z1 : w2.cell? ⟨Z, 1, none⟩ = some (.int .i64 q.g) := by rw [HB2.out.cell (p := ⟨Z, 1, none⟩) ZB.out.lt, ZB.out.cell]; rfl
      obtain ⟨sm, hsm⟩ : ∃ sm, ls.any (sameF q) = sm := ⟨_, rfl⟩
      obtain ⟨bg, hbg⟩ : ∃ bg, ls.any (begF q) = bg := ⟨_, rfl⟩
      have HSAY : Hid (saysB ls q = if q.g = 0 then sm else if q.g = 1 then !sm else if q.g = 2 then bg else false) := Lib.hid (by rw [says_eq, hsm, hbg])
      rw [hsm, hbg]
      obtain ⟨z, hz⟩ : ∃ z, z = q.g := ⟨_, rfl⟩
      rw [← hz] at z1 HSAY
      clear hsm hbg hz HB2
      by_cases h0 : z = 0
      · subst h0
        cases sm with
        | true =>
          go_wp2_with (fail)
          refine ⟨⟨i + 1, by go_num, HLT.out, HYES.out (by rw [HSAY.out]; rfl), B2.out⟩, by simp [intOf]; omega⟩
        | false =>
          have HX := Lib.hid (HNO.out (by rw [HSAY.out]; rfl))
          go_wp2_with (fail)
          exact HE.out _ _ _ _ _ _ _ _ _ _ _ _ _ _ _ _ _ _ _ _ _ _ _ _ _ _ _ _ _ _ _ _ _ _ _ _ _ _ _ _ _ _ _ _ _ _ _ _ _ _ _ _ _ _ _ _ _ _ _ _ _ _ _ _ _ _ _ _ _ _ _ _ _ _ _ _ _ _ _ _ _ _ _ _ _ _ _ _ _ _ _ _ _ _ _ _ _ _ _ HX B2
      by_cases h1 : z = 1
      · subst h1
        clear h0
        cases sm with
        | true =>
          have HX := Lib.hid (HNO.out (by rw [HSAY.out]; rfl))
          go_wp2_with (fail)
          exact HE.out _ _ _ _ _ _ _ _ _ _ _ _ _ _ _ _ _ _ _ _ _ _ _ _ _ _ _ _ _ _ _ _ _ _ _ _ _ _ _ _ _ _ _ _ _ _ _ _ _ _ _ _ _ _ _ _ _ _ _ _ _ _ _ _ _ _ _ _ _ _ _ _ _ _ _ _ _ _ _ _ _ _ _ _ _ _ _ _ _ _ _ _ _ _ _ _ _ _ _ HX B2
        | false =>
          go_wp2_with (fail)
          refine ⟨⟨i + 1, by go_num, HLT.out, HYES.out (by rw [HSAY.out]; rfl), B2.out⟩, by simp [intOf]; omega⟩
      by_cases h2 : z = 2
      · subst h2
        clear h0 h1
        cases bg with
        | true =>
          go_wp2_with (fail)
          refine ⟨⟨i + 1, by go_num, HLT.out, HYES.out (by rw [HSAY.out]; rfl), B2.out⟩, by simp [intOf]; omega⟩
        | false =>
          have HX := Lib.hid (HNO.out (by rw [HSAY.out]; rfl))
          go_wp2_with (fail)
          exact HE.out _ _ _ _ _ _ _ _ _ _ _ _ _ _ _ _ _ _ _ _ _ _ _ _ _ _ _ _ _ _ _ _ _ _ _ _ _ _ _ _ _ _ _ _ _ _ _ _ _ _ _ _ _ _ _ _ _ _ _ _ _ _ _ _ _ _ _ _ _ _ _ _ _ _ _ _ _ _ _ _ _ _ _ _ _ _ _ _ _ _ _ _ _ _ _ _ _ _ _ HX B2
      have k0 : (z == 0) = false := by rw [beq_eq_false_iff_ne]; exact h0
      have k1 : (z == 1) = false := by rw [beq_eq_false_iff_ne]; exact h1
      have k2 : (z == 2) = false := by rw [beq_eq_false_iff_ne]; exact h2
      have HX := Lib.hid (HNO.out (by rw [HSAY.out, if_neg h0, if_neg h1, if_neg h2]))
      by_cases h3 : z < 0
      · have k3 : decide (z < 0) = true := decide_eq_true h3
        clear h0 h1 h2 HSAY HYES HNO
        go_wp2_with (fail)
        exact HE.out _ _ _ _ _ _ _ _ _ _ _ _ _ _ _ _ _ _ _ _ _ _ _ _ _ _ _ _ _ _ _ _ _ _ _ _ _ _ _ _ _ _ _ _ _ _ _ _ _ _ _ _ _ _ _ _ _ _ _ _ _ _ _ _ _ _ _ _ _ _ _ _ _ _ _ _ _ _ _ _ _ _ _ _ _ _ _ _ _ _ _ _ _ _ _ _ _ _ _ HX B2
      · have k3 : decide (z < 0) = false := decide_eq_false h3
        have k4 : decide (2 < z) = true := decide_eq_true (by omega)
        clear h0 h1 h2 h3 HSAY HYES HNO
        go_wp2_with (fail)
        exact HE.out _ _ _ _ _ _ _ _ _ _ _ _ _ _ _ _ _ _ _ _ _ _ _ _ _ _ _ _ _ _ _ _ _ _ _ _ _ _ _ _ _ _ _ _ _ _ _ _ _ _ _ _ _ _ _ _ _ _ _ _ _ _ _ _ _ _ _ _ _ _ _ _ _ _ _ _ _ _ _ _ _ _ _ _ _ _ _ _ _ _ _ _ _ _ _ _ _ _ _ HX B2
    · have k1 : decide ((i : Int) < qs.length) = false := decide_eq_false (by omega)
      have k2 : decide (i < qs.length) = false := decide_eq_false hlt
      have HF : Hid (qs.all (saysB ls) = true) := Lib.hid (by rw [List.take_of_length_le (by omega)] at hall; exact hall)
      clear hi hlt hl hall hbw
      go_wp2_with (fail)
      exact HQ.out _ _ _ _ _ _ _ _ _ _ _ _ _ _ _ _ _ _ _ _ _ _ _ _ _ _ _ _ _ _ _ _ _ _ _ _ _ _ _ _ _ _ _ _ _ _ _ _ _ _ _ _ _ _ _ _ _ _ _ _ _ _ _ _ _ _ _ _ _ _ _ _ _ _ _ _ _ _ _ _ _ _ _ _ _ _ _ _ _ _ _ _ _ _ _ _ _ _ _ _ HF HBW
end Go.Proofs.Ytckgpocfcanokaa
