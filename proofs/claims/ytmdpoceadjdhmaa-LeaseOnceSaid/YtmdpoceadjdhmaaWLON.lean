/- LeaseOnce's walk: no number is taken twice. Premise: the lease's contracts. -/
import Derived.Test.YtmdpoceadjdhmaaLsOn
import Derived.Test.YtmdpoceadjdhmaaLsAw
import Derived.Test.YtmdpoceadjdhmaaHere
namespace Go.Proofs.Ytmdpoceadjdhmaa
open Go.RowKit

noncomputable def body_olc : Code := (((Try.f4.body.map loopsOf).getD [])[2]?).getD .skip
set_option maxRecDepth 100000 in
set_option maxHeartbeats 2000000 in
theorem olc_loop (c0 c1 c2 c3 c4 c5 c6 c7 c8 c9 c11 c12 c13 c14 c15 c17 c19 c20 c21 c22 c23 c24 c25 c26 c27 c28 c29 c30 c31 c32 c33 c34 c35 c36 c37 c38 c39 c40 c41 c42 c43 c44 c45 c46 c47 c48 c49 c50 c51 c52 c53 c54 c55 c56 c57 c58 c59 c60 c61 c62 c63 c64 c65 c66 c67 c68 c69 c70 c71 c72 c73 c74 c75 c76 c77 c78 c79 c80 c81 c82 c83 c84 c85 c86 c87 c88 c89 c90 c91 c92 c93 c94 c95 c96 c97 c98 c99 c100 c101 c102 c103 c104 c105 c106 : Value) (Al : Option Addr) (cl : Nat) (al : List Nat) (x : Nat) (w : World) (hl : Hid (∀ i (h : i < al.length), ∃ g, Al = some ⟨g, 0, none⟩ ∧ w.cell? ⟨g, i, none⟩ = some (.int .u64 (al[i] : Int)))) (hn : Hid (∀ z ∈ al, z < x)) (hm : Hid (al.length ≤ 1000)) {Q : Exit → Act → World → Prop}
    (HQ : Hid (∀ (u8 u90 u91 u92 u93 u94 u95 u96 u97 u98 u99 u100 u101 y : Value), Q (.exit 4) ⟨List.toArray (c0 :: c1 :: c2 :: c3 :: c4 :: c5 :: c6 :: c7 :: u8 :: c9 :: (.slice Al al.length cl) :: c11 :: c12 :: c13 :: c14 :: c15 :: (.int .u64 (x : Int)) :: c17 :: y :: c19 :: c20 :: c21 :: c22 :: c23 :: c24 :: c25 :: c26 :: c27 :: c28 :: c29 :: c30 :: c31 :: c32 :: c33 :: c34 :: c35 :: c36 :: c37 :: c38 :: c39 :: c40 :: c41 :: c42 :: c43 :: c44 :: c45 :: c46 :: c47 :: c48 :: c49 :: c50 :: c51 :: c52 :: c53 :: c54 :: c55 :: c56 :: c57 :: c58 :: c59 :: c60 :: c61 :: c62 :: c63 :: c64 :: c65 :: c66 :: c67 :: c68 :: c69 :: c70 :: c71 :: c72 :: c73 :: c74 :: c75 :: c76 :: c77 :: c78 :: c79 :: c80 :: c81 :: c82 :: c83 :: c84 :: c85 :: c86 :: c87 :: c88 :: c89 :: u90 :: u91 :: u92 :: u93 :: u94 :: u95 :: u96 :: u97 :: u98 :: u99 :: u100 :: u101 :: c102 :: c103 :: c104 :: c105 :: c106 :: []), []⟩ w)) :
    (Code.loop body_olc).wp Try.prog Q ⟨List.toArray (c0 :: c1 :: c2 :: c3 :: c4 :: c5 :: c6 :: c7 :: c8 :: c9 :: (.slice Al al.length cl) :: c11 :: c12 :: c13 :: c14 :: c15 :: (.int .u64 (x : Int)) :: c17 :: (.int .i64 0) :: c19 :: c20 :: c21 :: c22 :: c23 :: c24 :: c25 :: c26 :: c27 :: c28 :: c29 :: c30 :: c31 :: c32 :: c33 :: c34 :: c35 :: c36 :: c37 :: c38 :: c39 :: c40 :: c41 :: c42 :: c43 :: c44 :: c45 :: c46 :: c47 :: c48 :: c49 :: c50 :: c51 :: c52 :: c53 :: c54 :: c55 :: c56 :: c57 :: c58 :: c59 :: c60 :: c61 :: c62 :: c63 :: c64 :: c65 :: c66 :: c67 :: c68 :: c69 :: c70 :: c71 :: c72 :: c73 :: c74 :: c75 :: c76 :: c77 :: c78 :: c79 :: c80 :: c81 :: c82 :: c83 :: c84 :: c85 :: c86 :: c87 :: c88 :: c89 :: c90 :: c91 :: c92 :: c93 :: c94 :: c95 :: c96 :: c97 :: c98 :: c99 :: c100 :: c101 :: c102 :: c103 :: c104 :: c105 :: c106 :: []), []⟩ w := by
  unfold body_olc
  conv => arg 2; arg 1; whnf
  go_loopw [18] (fun x wx => (∃ j : Nat, x = .int .i64 (j : Int) ∧ j ≤ al.length) ∧ wx = w) (fun x _ => al.length - (intOf x).toNat)
  case atStart => exact ⟨⟨0, rfl, Nat.zero_le _⟩, rfl⟩
  case round =>
    obtain ⟨⟨j, rfl, hj⟩, rfl⟩ := hrel
    have hmo := hm.out
    by_cases hlt : j < al.length
    · have jI : (j : Int) < al.length := by omega
      have HLT := Lib.hid hlt
      obtain ⟨g, rfl, hc⟩ := hl.out j hlt
      obtain ⟨z, hz⟩ : ∃ z, z = al[j] := ⟨_, rfl⟩
      have hzx : z < x := by
        rw [hz]
        exact hn.out _ (List.getElem_mem _)
      have hc2 := hc.trans (congrArg (fun z : Nat => some (Value.int .u64 (z : Int))) hz.symm)
      have hc3 : wr.cell? ⟨g, j, none⟩ = some (.int .u64 (z : Int)) := hc2
      have hne : ((z : Int) == (x : Int)) = false := by rw [beq_eq_false_iff_ne]; omega
      clear hc hc2 hz hzx hlt hj
      go_wp2_with (fail)
      have h1 := HLT.out
      exact ⟨⟨⟨j + 1, by go_num, h1⟩, trivial⟩, by simp [intOf]; omega⟩
    · have jI : ¬ (j : Int) < al.length := by omega
      clear hlt hj
      go_wp2_with (fail)
      exact HQ.out _ _ _ _ _ _ _ _ _ _ _ _ _ _
/-- What holds of a lease's numbers so far. -/
structure OlIs (LC : LeaseC) (w0 : World) (p : Value) (first bd : Nat) (s : LS) (v : Value) (al : List Nat) (m : Nat) (W : World) : Prop where
  on : OnIs LC w0 p s v al W
  bound : s.bound = bd
  num : ∀ z ∈ al, first ≤ z ∧ z < s.next
  first : first ≤ s.next
  len : al.length ≤ m
def OlbRel (LC : LeaseC) (w0 : World) (p : Value) (first bd n0 : Nat) (v x : Value) (W : World) : Prop := ∃ (k : Nat) (s : LS) (al : List Nat), x = .int .i64 (k : Int) ∧ k ≤ 20 ∧ OlIs LC w0 p first bd s v al (n0 + k) W
noncomputable def body_olb : Code := (((Try.f4.body.map loopsOf).getD [])[1]?).getD .skip
set_option maxRecDepth 100000 in
set_option maxHeartbeats 8000000 in
theorem olb_loop (LC : LeaseC) (c0 c2 c4 c5 c6 c7 c8 c13 c14 c16 c17 c18 c19 c20 c21 c22 c23 c24 c25 c26 c27 c28 c29 c30 c31 c32 c33 c34 c35 c36 c37 c38 c39 c40 c41 c42 c43 c44 c45 c46 c47 c48 c49 c50 c51 c52 c53 c54 c55 c56 c57 c58 c59 c60 c61 c62 c63 c64 c65 c66 c67 c68 c69 c70 c71 c72 c73 c74 c75 c76 c77 c78 c79 c80 c81 c82 c83 c84 c85 c86 c87 c88 c89 c90 c91 c92 c93 c94 c95 c96 c97 c98 c99 c100 c101 c102 c103 c104 c105 c106 : Value) (w0 : World) (p v0 : Value) (first bd n0 i : Nat) (s0 : LS) (al0 : List Nat) (At : Option Addr) (ct : Nat) (ts : List UInt8) (w : World) (hb : Hid (n0 ≤ 200 ∧ i < 8 ∧ ts.length ≤ 8)) (ht : Hid (Rd w0 (.slice At ts.length ct) ts)) (h0 : Hid (OlIs LC w0 p first bd s0 v0 al0 n0 w)) {Q : Exit → Act → World → Prop}
    (HQ : Hid (∀ (u8 u16 u17 u18 u59 u60 u61 u62 u63 u64 u65 u66 u67 u68 u69 u70 u71 u72 u73 u74 u75 u76 u77 u78 u79 u80 u81 u82 u83 u84 u85 u86 u87 u88 u89 u90 u91 u92 u93 u94 u95 u96 u97 u98 u99 u100 u101 u102 u103 u104 u105 v y : Value) (s : LS) (al : List Nat) (W : World), Hid (OlIs LC w0 p first bd s v al (n0 + 20) W) → Q (.exit 2) ⟨List.toArray (c0 :: (.int .u64 (first : Int)) :: c2 :: (.slice At ts.length ct) :: c4 :: c5 :: c6 :: c7 :: u8 :: (.int .u64 (bd : Int)) :: v :: (.int .i64 (i : Int)) :: p :: c13 :: c14 :: y :: u16 :: u17 :: u18 :: c19 :: c20 :: c21 :: c22 :: c23 :: c24 :: c25 :: c26 :: c27 :: c28 :: c29 :: c30 :: c31 :: c32 :: c33 :: c34 :: c35 :: c36 :: c37 :: c38 :: c39 :: c40 :: c41 :: c42 :: c43 :: c44 :: c45 :: c46 :: c47 :: c48 :: c49 :: c50 :: c51 :: c52 :: c53 :: c54 :: c55 :: c56 :: c57 :: c58 :: u59 :: u60 :: u61 :: u62 :: u63 :: u64 :: u65 :: u66 :: u67 :: u68 :: u69 :: u70 :: u71 :: u72 :: u73 :: u74 :: u75 :: u76 :: u77 :: u78 :: u79 :: u80 :: u81 :: u82 :: u83 :: u84 :: u85 :: u86 :: u87 :: u88 :: u89 :: u90 :: u91 :: u92 :: u93 :: u94 :: u95 :: u96 :: u97 :: u98 :: u99 :: u100 :: u101 :: u102 :: u103 :: u104 :: u105 :: c106 :: []), []⟩ W)) :
    (Code.loop body_olb).wp Try.prog Q ⟨List.toArray (c0 :: (.int .u64 (first : Int)) :: c2 :: (.slice At ts.length ct) :: c4 :: c5 :: c6 :: c7 :: c8 :: (.int .u64 (bd : Int)) :: v0 :: (.int .i64 (i : Int)) :: p :: c13 :: c14 :: (.int .i64 0) :: c16 :: c17 :: c18 :: c19 :: c20 :: c21 :: c22 :: c23 :: c24 :: c25 :: c26 :: c27 :: c28 :: c29 :: c30 :: c31 :: c32 :: c33 :: c34 :: c35 :: c36 :: c37 :: c38 :: c39 :: c40 :: c41 :: c42 :: c43 :: c44 :: c45 :: c46 :: c47 :: c48 :: c49 :: c50 :: c51 :: c52 :: c53 :: c54 :: c55 :: c56 :: c57 :: c58 :: c59 :: c60 :: c61 :: c62 :: c63 :: c64 :: c65 :: c66 :: c67 :: c68 :: c69 :: c70 :: c71 :: c72 :: c73 :: c74 :: c75 :: c76 :: c77 :: c78 :: c79 :: c80 :: c81 :: c82 :: c83 :: c84 :: c85 :: c86 :: c87 :: c88 :: c89 :: c90 :: c91 :: c92 :: c93 :: c94 :: c95 :: c96 :: c97 :: c98 :: c99 :: c100 :: c101 :: c102 :: c103 :: c104 :: c105 :: c106 :: []), []⟩ w := by
  unfold body_olb
  conv => arg 2; arg 1; whnf
  go_loopw [10, 15] (fun v x wx => OlbRel LC w0 p first bd n0 v x wx) (fun _ x _ => 20 - (intOf x).toNat)
  case atStart => exact ⟨0, s0, al0, rfl, by decide, h0.out⟩
  case round =>
    obtain ⟨k, s, al, rfl, hk, hl⟩ := hrel
    have HL := Lib.hid hl
    have HK := Lib.hid hk
    obtain ⟨hb1, hb2, hb3⟩ := hb.out
    have HEX : Hid (OlIs LC w0 p first bd s u10 al (n0 + 20) wr) := Lib.hid ⟨hl.on, hl.bound, hl.num, hl.first, by have := hl.len; omega⟩
    have tI : (ts.length : Int) ≤ 8 := by omega
    have iI8 : (i : Int) < 8 := by omega
    by_cases hit : i < ts.length
    · have iI : (i : Int) < ts.length := by omega
      obtain ⟨At', ct', he, _, _, hA⟩ := ((ht.out.below hl.on.all.2).form)
      injection he with he1 he2 he3
      subst he1 he3
      obtain ⟨g, o, rfl, hg, hcell⟩ := hA (by omega)
      obtain ⟨t, ht0⟩ : ∃ t, t = (ts[i]).toNat := ⟨_, rfl⟩
      have hc := (hcell i hit).trans (congrArg (fun z : Nat => some (Value.int .u8 (z : Int))) ht0.symm)
      have hc2 : wr.cell? ⟨g, o + i, none⟩ = some (.int .u8 (t : Int)) := hc
      have htl : t < 256 := by rw [ht0]; exact (ts[i]).toNat_lt
      obtain ⟨r, hr⟩ : ∃ r, r = t % 20 := ⟨_, rfl⟩
      have e1 : (t : Int) % 20 = (r : Int) := by omega
      have e2 : IntKind.u8.wrap (r : Int) = (r : Int) := IntWalk.u8_in _ (by omega)
      have e3 : IntKind.i64.wrap (r : Int) = (r : Int) := IntWalk.i64_in _ (by omega)
      have HR20 : Hid (r < 20) := Lib.hid (by omega)
      clear hcell hc ht0 htl hr hg hk hb1 hb2 hb3
      by_cases hkr : k < r
      · have kI : (k : Int) < (r : Int) := by omega
        have HKR := Lib.hid hkr
        have HTK := Lib.hid (on_take hl.on)
        have hbd := hl.bound
        have hfi := hl.first
        by_cases hnb : s.next < s.bound
        · obtain ⟨x, hx⟩ : ∃ x, x = s.next := ⟨_, rfl⟩
          obtain ⟨s', hs'⟩ : ∃ s' : LS, s' = ⟨s.node, s.next + 1, s.bound⟩ := ⟨_, rfl⟩
          have HT2 : Hid (Calls Try.prog 8 #[p] wr fun e w' => e = .returned (.tuple #[.int .u64 (x : Int), .int .i64 0]) ∧ OnIs LC w0 p s' u10 al w') := Lib.hid (by
            have h1 := HTK.out
            rw [takeL_yes hnb] at h1
            rw [hs', hx]
            exact h1)
          have hge : decide ((bd : Int) ≤ (x : Int)) = false := decide_eq_false (by omega)
          have hge2 : decide (bd ≤ x) = false := decide_eq_false (by omega)
          have hlf : decide ((x : Int) < (first : Int)) = false := decide_eq_false (by omega)
          have hlf2 : decide (x < first) = false := decide_eq_false (by omega)
          have HX : Hid (x = s.next ∧ s' = ⟨s.node, s.next + 1, s.bound⟩) := Lib.hid ⟨hx, hs'⟩
          clear hkr hnb hbd hfi hx hs' hl
          go_wp2_with (fail)
          refine HT2.out.mono ?_
          rintro e w2 ⟨rfl, h2⟩
          have O2 := Lib.hid h2
          obtain ⟨Al, cl, rfl, hcl⟩ := row_form h2.all.row
          have HCE : Hid (∀ i (h : i < al.length), ∃ g, Al = some ⟨g, 0, none⟩ ∧ w2.cell? ⟨g, i, none⟩ = some (.int .u64 (al[i] : Int))) := Lib.hid fun j hj => by
            obtain ⟨g, h3, _, _, h4⟩ := hcl j (.int .u64 (al[j] : Int)) (by rw [List.getElem?_map, List.getElem?_eq_getElem hj]; rfl)
            exact ⟨g, h3, h4⟩
          have HAL : Hid (al.length ≤ 1000) := Lib.hid (by have := HL.out.len; have := hb.out.1; have := HK.out; omega)
          have HLT : Hid (∀ z ∈ al, z < x) := Lib.hid fun z hz => by
            have h5 := (HL.out.num z hz).2
            have h6 := HX.out.1
            omega
          clear h2 hcl
          go_wp2_with (fail)
          refine olc_loop _ _ _ _ _ _ _ _ _ _ _ _ _ _ _ _ _ _ _ _ _ _ _ _ _ _ _ _ _ _ _ _ _ _ _ _ _ _ _ _ _ _ _ _ _ _ _ _ _ _ _ _ _ _ _ _ _ _ _ _ _ _ _ _ _ _ _ _ _ _ _ _ _ _ _ _ _ _ _ _ _ _ _ _ _ _ _ _ _ _ _ _ _ _ _ _ _ _ _ _ _ _ _ _ Al cl al x w2 HCE HLT HAL (Lib.hid ?_)
          intro u8 u90 u91 u92 u93 u94 u95 u96 u97 u98 u99 u100 u101 y
          obtain ⟨j0, hj0, hjz, hj1, hj2⟩ := info_parts info_n64
          have HOW : Hid (OwnR 1 w2 w0.heap.size 23 (.slice Al al.length cl) (al.map nv1)) := Lib.hid O2.out.all.1
          have HSZ : Hid (w0.heap.size ≤ w2.heap.size) := Lib.hid O2.out.all.2.size
          have HML : Hid ((al.map nv1).length + 1 ≤ maxLen ∧ ((al.map nv1).length + 1) * 8 ≤ 140737488355328) := Lib.hid (by have := HAL.out; rw [List.length_map]; unfold maxLen; omega)
          go_wp2_with (first
            | (at_builtin
               refine wpList_append_elR w2 [.int .u64 (x : Int)] _ rfl (.tmp 102) (.tmp 104) _ rfl w0.heap.size 23 j0 _ 1 8 Try.underlying24 hj0 hjz hj1 hj2 rfl (by decide) _ _ rfl HOW.out rfl (by intro u hu; rw [List.mem_singleton.1 hu]; rfl) rfl HML.out.1 HML.out.2 HSZ.out ?_
               intro v9 w9 own9 n9
               have O9 := Lib.hid (on_app O2.out n9 own9)
               clear own9 n9))
          have hkk := HKR.out
          have hr := HR20.out
          have hx := HX.out
          refine ⟨⟨k + 1, s', al ++ [x], by go_num, by omega, ⟨O9.out, ?_, ?_, ?_, ?_⟩⟩, by simp [intOf]; omega⟩
          · rw [hx.2]
            exact HL.out.bound
          · intro z hz
            rw [hx.2]
            rcases List.mem_append.1 hz with h | h
            · have h7 := HL.out.num z h
              exact ⟨h7.1, show z < s.next + 1 by omega⟩
            · rw [List.mem_singleton.1 h, hx.1]
              exact ⟨HL.out.first, Nat.lt_succ_self _⟩
          · rw [hx.2]
            have h8 := HL.out.first
            exact Nat.le_succ_of_le h8
          · have h9 := HL.out.len
            rw [List.length_append, List.length_singleton]
            omega
        · obtain ⟨c, hc, hcd⟩ : ∃ c, c = (takeL s).2.2 ∧ (c = 12 ∨ c = 14) := by
            rcases takeL_cases s with ⟨_, h, _⟩ | ⟨h, _⟩
            · exact absurd h hnb
            · exact ⟨_, rfl, h⟩
          have HT2 : Hid (Calls Try.prog 8 #[p] wr fun e w' => e = .returned (.tuple #[.int .u64 0, .int .i64 (c : Int)]) ∧ OnIs LC w0 p s u10 al w') := Lib.hid (by
            have h1 := HTK.out
            rcases takeL_cases s with ⟨_, h, _⟩ | ⟨_, _, h3, h4⟩
            · exact absurd h hnb
            · rw [h3, h4, ← hc] at h1
              exact h1)
          have hcne : ((c : Int) == 0) = false := by rw [beq_eq_false_iff_ne]; omega
          clear hkr hnb hbd hfi hl hc hcd
          go_wp2_with (fail)
          refine HT2.out.mono ?_
          rintro e w2 ⟨rfl, h2⟩
          have HE2 : Hid (OlIs LC w0 p first bd s u10 al (n0 + 20) w2) := Lib.hid ⟨h2, HEX.out.bound, HEX.out.num, HEX.out.first, HEX.out.len⟩
          clear h2
          go_wp2_with (fail)
          exact HQ.out _ _ _ _ _ _ _ _ _ _ _ _ _ _ _ _ _ _ _ _ _ _ _ _ _ _ _ _ _ _ _ _ _ _ _ _ _ _ _ _ _ _ _ _ _ _ _ _ _ _ _ _ _ _ _ _ HE2
      · have kI : decide ((k : Int) < (r : Int)) = false := decide_eq_false (by omega)
        have kI2 : decide (k < r) = false := decide_eq_false hkr
        clear hkr hl
        go_wp2_with (fail)
        exact HQ.out _ _ _ _ _ _ _ _ _ _ _ _ _ _ _ _ _ _ _ _ _ _ _ _ _ _ _ _ _ _ _ _ _ _ _ _ _ _ _ _ _ _ _ _ _ _ _ _ _ _ _ _ _ _ _ _ HEX
    · have iI : decide ((i : Int) < (ts.length : Int)) = false := decide_eq_false (by omega)
      have iI2 : decide (i < ts.length) = false := decide_eq_false hit
      clear hl hit hk hb1 hb2 hb3
      go_wp2_with (fail)
      exact HQ.out _ _ _ _ _ _ _ _ _ _ _ _ _ _ _ _ _ _ _ _ _ _ _ _ _ _ _ _ _ _ _ _ _ _ _ _ _ _ _ _ _ _ _ _ _ _ _ _ _ _ _ _ _ _ _ _ HEX
structure OlaIs (w0 : World) (first bd : Nat) (v : Value) (al : List Nat) (i : Nat) (W : World) : Prop where
  all : AllIs w0 v al W
  num : ∀ z ∈ al, first ≤ z ∧ z < bd
  fst : first ≤ bd
  top : bd ≤ first + 255 * i
  len : al.length ≤ 20 * i
def OlaRel (w0 : World) (first k : Nat) (b v x : Value) (W : World) : Prop := ∃ (i bd : Nat) (al : List Nat), b = .int .u64 (bd : Int) ∧ x = .int .i64 (i : Int) ∧ i ≤ k ∧ OlaIs w0 first bd v al i W
noncomputable def body_ola : Code := (((Try.f4.body.map loopsOf).getD [])[0]?).getD .skip
set_option maxRecDepth 100000 in
set_option maxHeartbeats 8000000 in
theorem ola_loop (LC : LeaseC) (c4 c5 c6 c7 c8 c12 c13 c14 c15 c16 c17 c18 c19 c20 c21 c22 c23 c24 c25 c26 c27 c28 c29 c30 c31 c32 c33 c34 c35 c36 c37 c38 c39 c40 c41 c42 c43 c44 c45 c46 c47 c48 c49 c50 c51 c52 c53 c54 c55 c56 c57 c58 c59 c60 c61 c62 c63 c64 c65 c66 c67 c68 c69 c70 c71 c72 c73 c74 c75 c76 c77 c78 c79 c80 c81 c82 c83 c84 c85 c86 c87 c88 c89 c90 c91 c92 c93 c94 c95 c96 c97 c98 c99 c100 c101 c102 c103 c104 c105 c106 : Value) (node first : Nat) (Ag : Option Addr) (cg : Nat) (gs : List UInt8) (At : Option Addr) (ct : Nat) (ts : List UInt8) (w : World) (hb : Hid (node < 65536 ∧ first ≤ 2305843009213693952 ∧ gs.length ≤ 8 ∧ ts.length ≤ 8)) (hg : Hid (Rd w (.slice Ag gs.length cg) gs)) (ht : Hid (Rd w (.slice At ts.length ct) ts)) {Q : Exit → Act → World → Prop}
    (HQ : Hid (∀ (u8 u12 u13 u14 u15 u16 u17 u18 u33 u34 u35 u36 u37 u38 u39 u40 u41 u42 u43 u44 u45 u46 u47 u48 u49 u50 u51 u52 u53 u54 u55 u56 u57 u58 u59 u60 u61 u62 u63 u64 u65 u66 u67 u68 u69 u70 u71 u72 u73 u74 u75 u76 u77 u78 u79 u80 u81 u82 u83 u84 u85 u86 u87 u88 u89 u90 u91 u92 u93 u94 u95 u96 u97 u98 u99 u100 u101 u102 u103 u104 u105 b v y : Value) (W : World), Hid (Below w.heap.size w W) → Q (.exit 0) ⟨List.toArray ((.int .u16 (node : Int)) :: (.int .u64 (first : Int)) :: (.slice Ag gs.length cg) :: (.slice At ts.length ct) :: c4 :: c5 :: c6 :: c7 :: u8 :: b :: v :: y :: u12 :: u13 :: u14 :: u15 :: u16 :: u17 :: u18 :: c19 :: c20 :: c21 :: c22 :: c23 :: c24 :: c25 :: c26 :: c27 :: c28 :: c29 :: c30 :: c31 :: c32 :: u33 :: u34 :: u35 :: u36 :: u37 :: u38 :: u39 :: u40 :: u41 :: u42 :: u43 :: u44 :: u45 :: u46 :: u47 :: u48 :: u49 :: u50 :: u51 :: u52 :: u53 :: u54 :: u55 :: u56 :: u57 :: u58 :: u59 :: u60 :: u61 :: u62 :: u63 :: u64 :: u65 :: u66 :: u67 :: u68 :: u69 :: u70 :: u71 :: u72 :: u73 :: u74 :: u75 :: u76 :: u77 :: u78 :: u79 :: u80 :: u81 :: u82 :: u83 :: u84 :: u85 :: u86 :: u87 :: u88 :: u89 :: u90 :: u91 :: u92 :: u93 :: u94 :: u95 :: u96 :: u97 :: u98 :: u99 :: u100 :: u101 :: u102 :: u103 :: u104 :: u105 :: c106 :: []), []⟩ W)) :
    (Code.loop body_ola).wp Try.prog Q ⟨List.toArray ((.int .u16 (node : Int)) :: (.int .u64 (first : Int)) :: (.slice Ag gs.length cg) :: (.slice At ts.length ct) :: c4 :: c5 :: c6 :: c7 :: c8 :: (.int .u64 (first : Int)) :: (.slice none 0 0) :: (.int .i64 0) :: c12 :: c13 :: c14 :: c15 :: c16 :: c17 :: c18 :: c19 :: c20 :: c21 :: c22 :: c23 :: c24 :: c25 :: c26 :: c27 :: c28 :: c29 :: c30 :: c31 :: c32 :: c33 :: c34 :: c35 :: c36 :: c37 :: c38 :: c39 :: c40 :: c41 :: c42 :: c43 :: c44 :: c45 :: c46 :: c47 :: c48 :: c49 :: c50 :: c51 :: c52 :: c53 :: c54 :: c55 :: c56 :: c57 :: c58 :: c59 :: c60 :: c61 :: c62 :: c63 :: c64 :: c65 :: c66 :: c67 :: c68 :: c69 :: c70 :: c71 :: c72 :: c73 :: c74 :: c75 :: c76 :: c77 :: c78 :: c79 :: c80 :: c81 :: c82 :: c83 :: c84 :: c85 :: c86 :: c87 :: c88 :: c89 :: c90 :: c91 :: c92 :: c93 :: c94 :: c95 :: c96 :: c97 :: c98 :: c99 :: c100 :: c101 :: c102 :: c103 :: c104 :: c105 :: c106 :: []), []⟩ w := by
  unfold body_ola
  conv => arg 2; arg 1; whnf
  go_loopw [9, 10, 11] (fun b v x wx => OlaRel w first gs.length b v x wx) (fun _ _ x _ => gs.length - (intOf x).toNat)
  case atStart => exact ⟨0, first, [], rfl, rfl, Nat.zero_le _, AllIs.nil w, fun z hz => (by cases hz), Nat.le_refl _, by omega, Nat.le_refl _⟩
  case round =>
    obtain ⟨i, bd, al, rfl, rfl, hi, hl⟩ := hrel
    obtain ⟨hn, hf, hgl, htl⟩ := hb.out
    have HL := Lib.hid hl
    have gI : (gs.length : Int) ≤ 8 := by omega
    by_cases hlt : i < gs.length
    · have iI : (i : Int) < gs.length := by omega
      have HLT := Lib.hid hlt
      obtain ⟨Ag', cg', he, _, _, hA⟩ := ((hg.out.below hl.all.2).form)
      injection he with he1 he2 he3
      subst he1 he3
      obtain ⟨g, o, rfl, hgg, hcell⟩ := hA (by omega)
      obtain ⟨q, hq⟩ : ∃ q, q = (gs[i]).toNat := ⟨_, rfl⟩
      have hq256 : q < 256 := by rw [hq]; exact (gs[i]).toNat_lt
      have e1 : IntKind.u64.wrap (q : Int) = (q : Int) := IntWalk.u64_in _ (by omega)
      obtain ⟨nb, hnb⟩ : ∃ nb, nb = bd + q := ⟨_, rfl⟩
      have htop := hl.top
      have hfi := hl.fst
      have HNB : Hid (nb = bd + q ∧ q < 256 ∧ nb ≤ 4611686018427387904) := Lib.hid ⟨hnb, hq256, by omega⟩
      have HNW : Hid (Calls Try.prog 6 #[.int .u16 (node : Int), .int .u64 (bd : Int)] wr fun e w' => ∃ p, e = .returned p ∧ OnIs LC w p ⟨node, bd, bd⟩ u10 al w') := Lib.hid (by
        have h1 := on_new (LC := LC) hl.all hn (b := bd) (by omega)
        have h2 : newL node bd = ⟨node, bd, bd⟩ := by
          unfold newL
          rw [Nat.min_eq_left (by omega)]
        rw [h2] at h1
        exact h1)
      have HWN : Hid (∀ W p, OnIs LC w p ⟨node, bd, bd⟩ u10 al W → Calls Try.prog 14 #[p, .int .u64 (q : Int)] W fun e w' => e = .returned (.tuple #[.int .u64 (nb : Int), .int .i64 0]) ∧ OnIs LC w p ⟨node, bd, bd⟩ u10 al w') := Lib.hid fun W p h => by
        have h1 := on_wants h (n := q) (by omega)
        have h2 : wantsL ⟨node, bd, bd⟩ q = (nb, 0) := by
          unfold wantsL
          rw [if_neg (show ¬ 4611686018427387904 < bd + q by omega), hnb]
        rw [h2] at h1
        exact h1
      have HGR : Hid (∀ W p, OnIs LC w p ⟨node, bd, bd⟩ u10 al W → Calls Try.prog 12 #[p, .int .u64 (nb : Int)] W fun e w' => e = .returned (.int .i64 0) ∧ OnIs LC w p ⟨node, bd, nb⟩ u10 al w') := Lib.hid fun W p h => by
        have h1 := on_grant h (b := nb) (by omega)
        have h2 : grantL ⟨node, bd, bd⟩ nb = (⟨node, bd, nb⟩, 0) := by
          unfold grantL
          rw [if_neg (show ¬ nb < bd by omega), if_neg (by omega)]
        rw [h2] at h1
        exact h1
      have hc2 : ∀ W, Below wr.heap.size wr W → W.cell? ⟨g, o + i, none⟩ = some (.int .u8 (q : Int)) := fun W hW => (hW.cell (p := ⟨g, o + i, none⟩) hgg).trans ((hcell i hlt).trans (congrArg (fun z : Nat => some (Value.int .u8 (z : Int))) hq.symm))
      have HRDG := Lib.hid (fun W (hW : Below w.heap.size w W) => hg.out.below hW)
      have HC2 : Hid (∀ W, Below w.heap.size w W → W.cell? ⟨g, o + i, none⟩ = some (.int .u8 (q : Int))) := Lib.hid fun W hW => by
        obtain ⟨A3, c3, he3, _, _, hA3⟩ := (hg.out.below hW).form
        injection he3 with h31 h32 h33
        obtain ⟨b3, o3, h34, _, h36⟩ := hA3 (by omega)
        rw [h34] at h31
        injection h31 with h31
        injection h31 with h37 h38 _
        subst h37 h38
        exact (h36 i hlt).trans (congrArg (fun z : Nat => some (Value.int .u8 (z : Int))) hq.symm)
      clear hl hlt hi hn hf hgl htl hcell hq hq256 hnb htop hfi hc2 hgg HRDG
      go_wp2_with (fail)
      refine HNW.out.mono ?_
      rintro e w1 ⟨p, rfl, h1⟩
      have O1 := Lib.hid h1
      have c1 := HC2.out w1 h1.all.2
      clear h1
      go_wp2_with (fail)
      refine (HWN.out w1 p O1.out).mono ?_
      rintro e w2 ⟨rfl, h2⟩
      have O2 := Lib.hid h2
      clear h2 c1
      go_wp2_with (fail)
      refine (HGR.out w2 p O2.out).mono ?_
      rintro e w3 ⟨rfl, h3⟩
      have O3 : Hid (OlIs LC w p first nb ⟨node, bd, nb⟩ u10 al (20 * i) w3) := Lib.hid ⟨h3, rfl, HL.out.num, HL.out.fst, HL.out.len⟩
      clear h3
      go_wp2_with (fail)
      refine olb_loop LC _ _ _ _ _ _ _ _ _ _ _ _ _ _ _ _ _ _ _ _ _ _ _ _ _ _ _ _ _ _ _ _ _ _ _ _ _ _ _ _ _ _ _ _ _ _ _ _ _ _ _ _ _ _ _ _ _ _ _ _ _ _ _ _ _ _ _ _ _ _ _ _ _ _ _ _ _ _ _ _ _ _ _ _ _ _ _ _ _ _ _ _ _ _ _ _ _ _ _ _ w p u10 first nb (20 * i) i ⟨node, bd, nb⟩ al At ct ts w3 (Lib.hid (by have := HLT.out; have := hb.out; omega)) ht O3 (Lib.hid ?_)
      intro u8 u16 u17 u18 u59 u60 u61 u62 u63 u64 u65 u66 u67 u68 u69 u70 u71 u72 u73 u74 u75 u76 u77 u78 u79 u80 u81 u82 u83 u84 u85 u86 u87 u88 u89 u90 u91 u92 u93 u94 u95 u96 u97 u98 u99 u100 u101 u102 u103 u104 u105 v4 y4 s4 al4 w4 h4
      go_wp2_with (fail)
      have hlt := HLT.out
      have hnb := HNB.out
      refine ⟨⟨i + 1, nb, al4, rfl, by go_num, by omega, ⟨h4.out.on.all, fun z hz => ?_, ?_, ?_, ?_⟩⟩, by simp [intOf]; omega⟩
      · have h5 := h4.out.num z hz
        have h6 := h4.out.on.good
        have h7 := h4.out.bound
        exact ⟨h5.1, by have := h6.2.1; omega⟩
      · have := HL.out.fst
        omega
      · have := HL.out.top
        omega
      · have := h4.out.len
        omega
    · have iI : ¬ (i : Int) < gs.length := by omega
      have HB : Hid (Below w.heap.size w wr) := Lib.hid hl.all.2
      clear hl hlt hi hn hf hgl htl
      go_wp2_with (fail)
      exact HQ.out _ _ _ _ _ _ _ _ _ _ _ _ _ _ _ _ _ _ _ _ _ _ _ _ _ _ _ _ _ _ _ _ _ _ _ _ _ _ _ _ _ _ _ _ _ _ _ _ _ _ _ _ _ _ _ _ _ _ _ _ _ _ _ _ _ _ _ _ _ _ _ _ _ _ _ _ _ _ _ _ _ _ _ _ _ HB
set_option maxRecDepth 100000 in
set_option maxHeartbeats 4000000 in
theorem leaseOnce.walkC (LC : LeaseC) (a0 a1 : Int) (v2 : Value) (gs : List UInt8) (v3 : Value) (ts : List UInt8) (w : World) (k0 : (Lit.int .u16 a0).wf = true) (k1 : (Lit.int .u64 a1).wf = true) (k2 : Rd w v2 gs) (k3 : Rd w v3 ts) :
    Calls Try.prog 4 #[.int .u16 a0, .int .u64 a1, v2, v3] w fun e w' => e = .returned (.bool true) ∧ Below w.heap.size w w' := by
  obtain ⟨Ag, cg, rfl, hg1, hg2, _⟩ := k2.form
  obtain ⟨At, ct, rfl, ht1, ht2, _⟩ := k3.form
  have HG := Lib.hid k2
  have HT := Lib.hid k3
  obtain ⟨node, rfl, hnode⟩ : ∃ n : Nat, a0 = (n : Int) ∧ n < 65536 := by
    simp [Lit.wf, IntKind.min, IntKind.max, IntKind.signed, IntKind.bits] at k0
    exact ⟨a0.toNat, by omega, by omega⟩
  obtain ⟨first, rfl, hfirst⟩ : ∃ n : Nat, a1 = (n : Int) ∧ n < 18446744073709551616 := by
    simp [Lit.wf, IntKind.min, IntKind.max, IntKind.signed, IntKind.bits] at k1
    exact ⟨a1.toNat, by omega, by omega⟩
  unfold maxLen at hg2 ht2
  have gI : (gs.length : Int) ≤ 9223372036854775807 := by omega
  have tI : (ts.length : Int) ≤ 9223372036854775807 := by omega
  have HAW := Lib.hid (awakeL_any LC w)
  by_cases h1 : 2305843009213693952 < first
  · have g1 : decide ((2305843009213693952 : Int) < (first : Int)) = true := decide_eq_true (by omega)
    clear k0 k1 k2 k3 hg1 hg2 ht1 ht2 hnode hfirst h1
    go_enter Try.func4, Try.ntmps4
    go_wp2_with (fail)
    refine HAW.out.mono ?_
    rintro e w1 ⟨rfl, b1⟩
    have B1 := Lib.hid b1
    clear b1
    go_wp2_with (fail)
    go_ret
    exact ⟨rfl, B1.out⟩
  · have g1 : decide ((2305843009213693952 : Int) < (first : Int)) = false := decide_eq_false (by omega)
    by_cases h2 : 8 < gs.length
    · have g2 : decide ((8 : Int) < (gs.length : Int)) = true := decide_eq_true (by omega)
      clear k0 k1 k2 k3 hg1 hg2 ht1 ht2 hnode hfirst h1 h2
      go_enter Try.func4, Try.ntmps4
      go_wp2_with (fail)
      refine HAW.out.mono ?_
      rintro e w1 ⟨rfl, b1⟩
      have B1 := Lib.hid b1
      clear b1
      go_wp2_with (fail)
      go_ret
      exact ⟨rfl, B1.out⟩
    · have g2 : decide ((8 : Int) < (gs.length : Int)) = false := decide_eq_false (by omega)
      by_cases h3 : 8 < ts.length
      · have g3 : decide ((8 : Int) < (ts.length : Int)) = true := decide_eq_true (by omega)
        clear k0 k1 k2 k3 hg1 hg2 ht1 ht2 hnode hfirst h1 h2 h3
        go_enter Try.func4, Try.ntmps4
        go_wp2_with (fail)
        refine HAW.out.mono ?_
        rintro e w1 ⟨rfl, b1⟩
        have B1 := Lib.hid b1
        clear b1
        go_wp2_with (fail)
        go_ret
        exact ⟨rfl, B1.out⟩
      · have g3 : decide ((8 : Int) < (ts.length : Int)) = false := decide_eq_false (by omega)
        have HB : Hid (node < 65536 ∧ first ≤ 2305843009213693952 ∧ gs.length ≤ 8 ∧ ts.length ≤ 8) := Lib.hid ⟨hnode, by omega, by omega, by omega⟩
        clear k0 k1 k2 k3 hg1 hg2 ht1 ht2 hnode hfirst h1 h2 h3
        go_enter Try.func4, Try.ntmps4
        go_wp2_with (fail)
        refine ola_loop LC _ _ _ _ _ _ _ _ _ _ _ _ _ _ _ _ _ _ _ _ _ _ _ _ _ _ _ _ _ _ _ _ _ _ _ _ _ _ _ _ _ _ _ _ _ _ _ _ _ _ _ _ _ _ _ _ _ _ _ _ _ _ _ _ _ _ _ _ _ _ _ _ _ _ _ _ _ _ _ _ _ _ _ _ _ _ _ _ _ _ _ _ _ _ _ _ _ _ _ _ node first Ag cg gs At ct ts w HB HG HT (Lib.hid ?_)
        intro u8 u12 u13 u14 u15 u16 u17 u18 u33 u34 u35 u36 u37 u38 u39 u40 u41 u42 u43 u44 u45 u46 u47 u48 u49 u50 u51 u52 u53 u54 u55 u56 u57 u58 u59 u60 u61 u62 u63 u64 u65 u66 u67 u68 u69 u70 u71 u72 u73 u74 u75 u76 u77 u78 u79 u80 u81 u82 u83 u84 u85 u86 u87 u88 u89 u90 u91 u92 u93 u94 u95 u96 u97 u98 u99 u100 u101 u102 u103 u104 u105 b v y w2 hb2
        go_wp2_with (fail)
        refine (awakeL_any LC w2).mono ?_
        rintro e w3 ⟨rfl, b3⟩
        have B3 := Lib.hid b3
        clear b3
        go_wp2_with (fail)
        go_ret
        exact ⟨rfl, hb2.out.trans (B3.out.mono hb2.out.size)⟩
end Go.Proofs.Ytmdpoceadjdhmaa
