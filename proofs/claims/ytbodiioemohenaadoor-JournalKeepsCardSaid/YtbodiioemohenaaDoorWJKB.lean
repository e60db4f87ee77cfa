/- JournalKeeps' outer loop. Premises: the contracts. -/
import Derived.Test.YtbodiioemohenaaDoorWJKA
import Derived.Test.YtbodiioemohenaaDoorJnIn
import Derived.Test.YtbodiioemohenaaDoorJnRows
import Derived.Test.YtbodiioemohenaaDoorPart19
namespace Go.Proofs.YtbodiioemohenaaDoor
open Go.RowKit

/-- What was there last: nothing yet, or the image of an elder turn. -/
def HadIs (S : DS) (sm : Bool) (hb : List UInt8) (i : Nat) : Prop :=
  if sm then (∃ (j : Nat) (x : UInt8), j < i ∧ hb = [UInt8.ofNat j, x]) ∧ ∃ n s, loadS fp8 S 0 256 = some (hb, n, s) else hb = [] ∧ loadS fp8 S 0 256 = none
theorem HadIs.len {S : DS} {sm : Bool} {hb : List UInt8} {i : Nat} (h : HadIs S sm hb i) : hb.length ≤ 2 := by
  cases sm with
  | false => rw [show hb = [] from h.1]; decide
  | true =>
    obtain ⟨⟨j, x, _, e⟩, _⟩ := h
    rw [e]
    exact Nat.le_refl _
def JkbRel (DC : DiskW) (n : Nat) (dp : Value) (w : World) (vh vs v : Value) (W : World) : Prop :=
  ∃ (i : Nat) (S : DS) (sm : Bool) (hb : List UInt8), v = .int .i64 (i : Int) ∧ i ≤ n ∧ vs = .bool sm ∧ DKeep DC w dp S [(vh, hb)] W ∧ JOff S ∧ mostS S 0 256 ≤ i ∧ S.ops ≤ 400 * i ∧ HadIs S sm hb i
noncomputable def body_jkb : Code := (((Tryd.f3.body.map loopsOf).getD [])[0]?).getD .skip
set_option maxRecDepth 100000 in
set_option maxHeartbeats 8000000 in
theorem jkb_loop (DC : DiskW) (JC : JournC DC) (c3 c4 c5 c6 c11 c12 c13 c14 c15 c16 c17 c18 c19 c20 c21 c22 c23 c24 c25 c26 c27 c28 c29 c30 c31 c32 c33 c34 c35 c36 c37 c38 c39 c40 c41 c42 c43 c44 c45 c46 c47 c48 c49 c50 c51 c52 c53 c54 c55 c56 c57 c58 c59 c60 c61 c62 c63 c64 c65 c66 c67 c68 c69 c70 c71 c72 c73 c74 c75 c76 c77 c78 c79 c80 c81 c82 c83 c84 c85 c86 c87 c88 c89 c90 c91 c92 c93 c94 c95 c96 c97 c98 c99 c100 c101 c102 c103 c104 c105 c106 c107 c108 c109 c110 c111 c112 c113 c114 c115 c116 c117 c118 c119 c120 c121 c122 c123 c124 c125 c126 c127 c128 c129 c130 c131 c132 c133 c134 c135 c136 c137 c138 c139 c140 c141 c142 c143 c144 c145 c146 c147 c148 c149 c150 c151 c152 c153 c154 c155 c156 c157 c158 c159 c160 c161 c162 c163 c164 c165 c166 c167 c168 c169 c170 c171 c172 c173 c174 c175 c176 c177 c178 c179 c180 c181 c182 c183 c184 c185 c186 c187 c188 c189 c190 c191 c192 c193 c194 c195 c196 c197 c198 c199 c200 c201 c202 c203 c204 : Value) (ls : List (List (List UInt8))) (At : Option Addr) (ct : Nat) (us : List UInt8) (Au : Option Addr) (cu : Nat) (fs : List UInt8) (vf : Value) (dp : Value) (w W0 : World) (hs : Hid (Salts w)) (hl : Hid (RsB w (.slice At ls.length ct) ls)) (hu : Hid (Rd w (.slice Au us.length cu) us)) (hf : Hid (Rd w vf fs))
    (hn : Hid (ls.length ≤ 6 ∧ us.length ≤ 8 ∧ fs.length ≤ 20)) (h0 : Hid (DKeep DC w dp newS [(.slice none 0 0, [])] W0)) {Q : Exit → Act → World → Prop}
    (HQ : Hid (∀ (u6 u11 u12 u13 u14 u15 u16 u17 u18 u19 u20 u21 u22 u38 u39 u40 u41 u42 u43 u44 u45 u46 u47 u48 u49 u50 u51 u52 u53 u54 u55 u56 u57 u58 u59 u60 u61 u62 u63 u64 u65 u66 u67 u68 u69 u70 u71 u72 u73 u74 u75 u76 u77 u78 u79 u80 u81 u82 u83 u84 u85 u86 u87 u88 u89 u90 u91 u92 u93 u94 u95 u96 u97 u98 u99 u100 u101 u102 u103 u104 u105 u106 u107 u108 u109 u110 u111 u112 u113 u114 u115 u116 u117 u118 u119 u120 u121 u122 u123 u124 u125 u126 u127 u128 u129 u130 u131 u132 u133 u134 u135 u136 u137 u138 u139 u140 u141 u142 u143 u144 u145 u146 u147 u148 u149 u150 u151 u152 u153 u154 u155 u156 u157 u158 u159 u160 u161 u162 u163 u164 u165 u166 u167 u168 u169 u170 u171 u172 u173 u174 u175 u176 u177 u178 u179 u180 u181 u182 u183 u184 u185 u186 u187 u188 u189 u190 u191 u192 u193 u194 u195 u196 u197 u198 u199 u200 u201 u202 u203 v1 v2 v3 : Value) (W : World), Hid (Below w.heap.size w W) → Q (.exit 0) ⟨List.toArray ((.slice At ls.length ct) :: (.slice Au us.length cu) :: vf :: c3 :: c4 :: c5 :: u6 :: dp :: v1 :: v2 :: v3 :: u11 :: u12 :: u13 :: u14 :: u15 :: u16 :: u17 :: u18 :: u19 :: u20 :: u21 :: u22 :: c23 :: c24 :: c25 :: c26 :: c27 :: c28 :: c29 :: c30 :: c31 :: c32 :: c33 :: c34 :: c35 :: c36 :: c37 :: u38 :: u39 :: u40 :: u41 :: u42 :: u43 :: u44 :: u45 :: u46 :: u47 :: u48 :: u49 :: u50 :: u51 :: u52 :: u53 :: u54 :: u55 :: u56 :: u57 :: u58 :: u59 :: u60 :: u61 :: u62 :: u63 :: u64 :: u65 :: u66 :: u67 :: u68 :: u69 :: u70 :: u71 :: u72 :: u73 :: u74 :: u75 :: u76 :: u77 :: u78 :: u79 :: u80 :: u81 :: u82 :: u83 :: u84 :: u85 :: u86 :: u87 :: u88 :: u89 :: u90 :: u91 :: u92 :: u93 :: u94 :: u95 :: u96 :: u97 :: u98 :: u99 :: u100 :: u101 :: u102 :: u103 :: u104 :: u105 :: u106 :: u107 :: u108 :: u109 :: u110 :: u111 :: u112 :: u113 :: u114 :: u115 :: u116 :: u117 :: u118 :: u119 :: u120 :: u121 :: u122 :: u123 :: u124 :: u125 :: u126 :: u127 :: u128 :: u129 :: u130 :: u131 :: u132 :: u133 :: u134 :: u135 :: u136 :: u137 :: u138 :: u139 :: u140 :: u141 :: u142 :: u143 :: u144 :: u145 :: u146 :: u147 :: u148 :: u149 :: u150 :: u151 :: u152 :: u153 :: u154 :: u155 :: u156 :: u157 :: u158 :: u159 :: u160 :: u161 :: u162 :: u163 :: u164 :: u165 :: u166 :: u167 :: u168 :: u169 :: u170 :: u171 :: u172 :: u173 :: u174 :: u175 :: u176 :: u177 :: u178 :: u179 :: u180 :: u181 :: u182 :: u183 :: u184 :: u185 :: u186 :: u187 :: u188 :: u189 :: u190 :: u191 :: u192 :: u193 :: u194 :: u195 :: u196 :: u197 :: u198 :: u199 :: u200 :: u201 :: u202 :: u203 :: c204 :: []), []⟩ W))
    (HR : Hid (∀ (a : Act) (W : World), a.tmps.getD 6 undef = .bool true → a.defers = [] → Below w.heap.size w W → Q .ret a W)) :
    (Code.loop body_jkb).wp Tryd.prog Q ⟨List.toArray ((.slice At ls.length ct) :: (.slice Au us.length cu) :: vf :: c3 :: c4 :: c5 :: c6 :: dp :: (.slice none 0 0) :: (.bool false) :: (.int .i64 0) :: c11 :: c12 :: c13 :: c14 :: c15 :: c16 :: c17 :: c18 :: c19 :: c20 :: c21 :: c22 :: c23 :: c24 :: c25 :: c26 :: c27 :: c28 :: c29 :: c30 :: c31 :: c32 :: c33 :: c34 :: c35 :: c36 :: c37 :: c38 :: c39 :: c40 :: c41 :: c42 :: c43 :: c44 :: c45 :: c46 :: c47 :: c48 :: c49 :: c50 :: c51 :: c52 :: c53 :: c54 :: c55 :: c56 :: c57 :: c58 :: c59 :: c60 :: c61 :: c62 :: c63 :: c64 :: c65 :: c66 :: c67 :: c68 :: c69 :: c70 :: c71 :: c72 :: c73 :: c74 :: c75 :: c76 :: c77 :: c78 :: c79 :: c80 :: c81 :: c82 :: c83 :: c84 :: c85 :: c86 :: c87 :: c88 :: c89 :: c90 :: c91 :: c92 :: c93 :: c94 :: c95 :: c96 :: c97 :: c98 :: c99 :: c100 :: c101 :: c102 :: c103 :: c104 :: c105 :: c106 :: c107 :: c108 :: c109 :: c110 :: c111 :: c112 :: c113 :: c114 :: c115 :: c116 :: c117 :: c118 :: c119 :: c120 :: c121 :: c122 :: c123 :: c124 :: c125 :: c126 :: c127 :: c128 :: c129 :: c130 :: c131 :: c132 :: c133 :: c134 :: c135 :: c136 :: c137 :: c138 :: c139 :: c140 :: c141 :: c142 :: c143 :: c144 :: c145 :: c146 :: c147 :: c148 :: c149 :: c150 :: c151 :: c152 :: c153 :: c154 :: c155 :: c156 :: c157 :: c158 :: c159 :: c160 :: c161 :: c162 :: c163 :: c164 :: c165 :: c166 :: c167 :: c168 :: c169 :: c170 :: c171 :: c172 :: c173 :: c174 :: c175 :: c176 :: c177 :: c178 :: c179 :: c180 :: c181 :: c182 :: c183 :: c184 :: c185 :: c186 :: c187 :: c188 :: c189 :: c190 :: c191 :: c192 :: c193 :: c194 :: c195 :: c196 :: c197 :: c198 :: c199 :: c200 :: c201 :: c202 :: c203 :: c204 :: []), []⟩ W0 := by
  unfold body_jkb
  conv => arg 2; arg 1; whnf
  go_loopw [8, 9, 10] (fun vh vs v wx => JkbRel DC ls.length dp w vh vs v wx) (fun _ _ v _ => ls.length - (intOf v).toNat)
  case atStart => exact ⟨0, newS, false, [], rfl, Nat.zero_le _, rfl, h0.out, joff_new, by rw [most_new]; exact Nat.le_refl _, Nat.le_refl _, rfl, load_new0 fp8 0 256⟩
  case round =>
    obtain ⟨i, S, sm, hb, rfl, hi, rfl, hkp, hoff, hmo, hop, hhad⟩ := hrel
    have nI : (ls.length : Int) ≤ 6 := by have := hn.out.1; omega
    have uI : (us.length : Int) ≤ 8 := by have := hn.out.2.1; omega
    have i6 : i ≤ 6 := by have := hn.out.1; omega
    by_cases hlt : i < ls.length
    · have hI : (i : Int) < ls.length := by omega
      obtain ⟨A, c, e, _, hrow⟩ := hl.out.ex
      injection e with e1 _ e2
      obtain ⟨g, o, ui, hA, hg, cui, hui⟩ := hrow i hlt
      obtain rfl : At = some ⟨g, o, none⟩ := e1.trans hA
      obtain ⟨l, hll⟩ : ∃ l, l = ls[i] := ⟨_, rfl⟩
      rw [← hll] at hui
      obtain ⟨Al, cl, rfl, hlm, _⟩ := hui.rs.ex
      have cu0 := (hkp.old.cell (p := ⟨g, o + i, none⟩) hg).trans cui
      have hrh := hkp.rd (List.mem_singleton.2 rfl)
      obtain ⟨Ah, ch, rfl, _, _, _⟩ := hrh.form
      have h2 := hhad.len
      have HUI := Lib.hid hui
      have HLT := Lib.hid hlt
      have HK := Lib.hid hkp
      have HOL := Lib.hid hkp.old
      have HST : Hid (JOff S ∧ mostS S 0 256 ≤ i ∧ S.ops ≤ 400 * i ∧ HadIs S sm hb i ∧ i ≤ 6) := Lib.hid ⟨hoff, hmo, hop, hhad, i6⟩
      unfold maxLen at hlm
      have lI : (l.length : Int) ≤ 9223372036854775807 := by omega
      by_cases hg5 : 5 < l.length
      · have gI : decide ((5 : Int) < (l.length : Int)) = true := decide_eq_true (by omega)
        clear hkp hoff hmo hop hhad hi hlt hrow e1 e2 hA hg cui hui hll hlm hrh h2 hg5 i6
        go_wp2_with (fail)
        refine (awakeJ_any DC JC _ (hs.out.under HOL.out hs.out.1)).mono ?_
        rintro e w1 ⟨rfl, b1⟩
        have B1 := Lib.hid (HOL.out.trans (b1.mono HOL.out.size))
        clear b1
        go_wp2_with (fail)
        exact HR.out _ _ rfl rfl B1.out
      · have gI : decide ((5 : Int) < (l.length : Int)) = false := decide_eq_false (by omega)
        have HG5 : Hid (l.length ≤ 5) := Lib.hid (by omega)
        obtain ⟨ia, hia⟩ : ∃ a : UInt8, a = UInt8.ofNat i := ⟨_, rfl⟩
        obtain ⟨ib, hib⟩ : ∃ b : UInt8, b = UInt8.ofNat hb.length := ⟨_, rfl⟩
        have ea : IntKind.u8.wrap (i : Int) = (ia.toNat : Int) := by
          rw [hia, IntWalk.u8_in _ (by omega), UInt8.toNat_ofNat_of_lt' (by show i < 256; omega)]
        have eb : IntKind.u8.wrap (hb.length : Int) = (ib.toNat : Int) := by
          rw [hib, IntWalk.u8_in _ (by omega), UInt8.toNat_ofNat_of_lt' (by show hb.length < 256; omega)]
        have hbI : (hb.length : Int) ≤ 2 := by omega
        have HIA := Lib.hid hia
        obtain ⟨i0, hi0, hz0, hz1, hz2⟩ := info_parts info_u8
        clear hkp hoff hmo hop hhad hi hlt hrow e1 e2 hA hg cui hui hll hlm hrh h2 hg5 i6 hia hib
        go_wp2_with (fail)
        refine (jk_open (JC := JC) HK.out).mono ?_
        rintro e w2 ⟨X, st0, rfl, _, k2⟩
        have K2 := Lib.hid k2
        have OW : Hid ((w2.alloc (.cells #[.int .u8 (ia.toNat : Int)] 5)).ownsRow w2.heap.size 5 1 (.slice (some ⟨w2.heap.size, 0, none⟩) 1 1) 1 [.int .u8 (ia.toNat : Int)]) := Lib.hid (own_lit1 rfl (Nat.le_refl _))
        have HB3 : Hid (∀ V, Below w2.heap.size (w2.alloc (.cells #[.int .u8 (ia.toNat : Int)] 5)) V → Below w2.heap.size w2 V ∧ Below w.heap.size w V) := Lib.hid fun V hV => by
          have h1 : Below w2.heap.size w2 V := ((Below.refl _ _).alloc (Nat.le_refl _) _).trans hV
          exact ⟨h1, k2.old.trans (h1.mono k2.old.size)⟩
        clear k2
        by_cases hfu : i < us.length
        case' pos =>
          have hfI : (i : Int) < us.length := by omega
          obtain ⟨b, off, rfl, hcell, hx⟩ : ∃ b off, Au = some ⟨b, off, none⟩ ∧ (∀ V, Below w.heap.size w V → V.cell? ⟨b, off + i, none⟩ = some (.int .u8 ((us[i]'hfu).toNat : Int))) ∧ (us[i]'hfu).toNat < 256 := by
            rcases hu.out with ⟨_, _, _, _, _, h4⟩ | ⟨b, off, _, e1, h2, _, _, h5⟩
            · rw [h4] at hfu
              cases hfu
            · injection e1 with e1 _ _
              exact ⟨b, off, e1, fun V hV => (hV.cell (p := ⟨b, off + i, none⟩) h2).trans (h5 _ hfu), (us[i]'hfu).toNat_lt⟩
          obtain ⟨y, hy⟩ : ∃ y : Nat, y = (us[i]'hfu).toNat := ⟨_, rfl⟩
          rw [← hy] at hcell hx
          obtain ⟨z, hz⟩ : ∃ z : Nat, z = y % 24 := ⟨_, rfl⟩
          have e24 : Int.tmod (y : Int) 24 = (z : Int) := by rw [hz]; rfl
          have zI : (z : Int) < 24 := by omega
          have HC := Lib.hid hcell
          clear hy hz hcell hfu
          go_wp2_with (with_reducible refine here_app 59 63 ?_
                       refine wpList_append_one _ _ _ rfl (.tmp 59) (.tmp 63) _ rfl w2.heap.size 5 i0 _ 1 Tryd.underlying23 hi0 hz0 hz1 hz2 rfl rfl _ 1 _ rfl OW.out (by rw [World.size_alloc]; rfl) (by unfold maxLen; omega) (by omega) (by rw [World.size_alloc]; omega) ?_
                       intro v3 w3 own3 b3
                       have O3 := Lib.hid own3
                       have B3 := Lib.hid b3
                       have cb3 := HC.out w3 (HB3.out w3 b3).2
                       clear own3 b3
                       go_frame)
          have K3 := K2.out.add (HB3.out _ B3.out).1 (rd_two_own O3.out B3.out).1 (rd_two_own O3.out B3.out).2.1
          refine (jk_fuse K3 (z : Int) (WalkArith.wf_i64 (by omega))).mono ?_
          rintro e w4 ⟨⟨cf, rfl⟩, hk4⟩
          have HF0 := Lib.hid (fuse_off HST.out.1 (z : Int))
          obtain ⟨T, hT⟩ : ∃ T : DS, T = (fuseS S (z : Int)).1 := ⟨_, rfl⟩
          rw [← hT] at HF0 hk4
          have K4 := Lib.hid hk4
          clear K3 hk4 hT HC cb3 e24
          go_wp2_with (fail)
        case' neg =>
          have hfI : ¬ (i : Int) < us.length := by omega
          clear hfu
          go_wp2_with (with_reducible refine here_app 59 63 ?_
                       refine wpList_append_one _ _ _ rfl (.tmp 59) (.tmp 63) _ rfl w2.heap.size 5 i0 _ 1 Tryd.underlying23 hi0 hz0 hz1 hz2 rfl rfl _ 1 _ rfl OW.out (by rw [World.size_alloc]; rfl) (by unfold maxLen; omega) (by omega) (by rw [World.size_alloc]; omega) ?_
                       intro v3 w3 own3 b3
                       have O3 := Lib.hid own3
                       have B3 := Lib.hid b3
                       clear own3 b3
                       go_frame)
          have hk4 := K2.out.add (HB3.out _ B3.out).1 (rd_two_own O3.out B3.out).1 (rd_two_own O3.out B3.out).2.1
          have HF1 : Hid (JOff S ∧ loadS fp8 S 0 256 = loadS fp8 S 0 256 ∧ mostS S 0 256 = mostS S 0 256 ∧ S.ops = S.ops) := Lib.hid ⟨HST.out.1, rfl, rfl, rfl⟩
          obtain ⟨T, hT⟩ : ∃ T : DS, T = S := ⟨_, rfl⟩
          have HF0 : Hid (JOff T ∧ loadS fp8 T 0 256 = loadS fp8 S 0 256 ∧ mostS T 0 256 = mostS S 0 256 ∧ T.ops = S.ops) := Lib.hid (by rw [hT]; exact HF1.out)
          rw [← hT] at hk4
          have K4 := Lib.hid hk4
          clear hk4 hT HF1
        all_goals
          obtain ⟨hoT, hlT, hmT, hpT⟩ := HF0.out
          obtain ⟨m, hm⟩ : ∃ m, mostS T 0 256 = m := ⟨_, rfl⟩
          have mI : m ≤ 6 := by have := HST.out.2.1; have := HST.out.2.2.2.2; omega
          have oI : T.ops ≤ 2400 := by have := HST.out.2.2.1; have := HST.out.2.2.2.2; omega
          refine (jk_save K4.out hs.out (List.mem_cons_self ..) (by simp) hoT.calm.on (by omega) (by omega)).mono ?_
          rintro e w5 ⟨rfl, st5, h5, hk5⟩
          have hjin := jin_save hoT (img := [ia, ib]) (by simp) (by omega) l h5
          obtain ⟨P, hP⟩ : ∃ P, saveS fp8 T 0 256 [ia, ib] false = P := ⟨_, rfl⟩
          rw [hP, hm] at hjin
          rw [hP] at hk5 ⊢
          obtain ⟨S1, f⟩ := P
          have K5 : Hid (JKeep JC w (.pointer (some X)) dp st5 S1 [(v3, [ia, ib]), (.slice Ah hb.length ch, hb)] w5) := Lib.hid hk5
          have HJ : Hid (JIn T m [ia, ib] f l 0 st5 S1) := Lib.hid hjin
          have HT : Hid (loadS fp8 T 0 256 = loadS fp8 S 0 256 ∧ m ≤ i ∧ T.ops = S.ops ∧ m < 1000000 ∧ T.ops ≤ 40000) := Lib.hid ⟨hlT, by have := HST.out.2.1; omega, hpT, by omega, by omega⟩
          clear hoT hlT hmT hpT hm mI oI h5 hjin hP hk5 K4 HF0
          go_wp2_with (fail)
          refine jka_loop DC JC _ _ _ _ _ _ _ _ _ _ _ _ _ _ _ _ _ _ _ _ _ _ _ _ _ _ _ _ _ _ _ _ _ _ _ _ _ _ _ _ _ _ _ _ _ _ _ _ _ _ _ _ _ _ _ _ _ _ _ _ _ _ _ _ _ _ _ _ _ _ _ _ _ _ _ _ _ _ _ _ _ _ _ _ _ _ _ _ _ _ _ _ _ _ _ _ _ _ _ _ _ _ _ _ _ _ _ _ _ _ _ _ _ _ _ _ _ _ _ _ _ _ _ _ _ _ _ _ _ _ _ _ _ _ _ _ _ _ _ _ _ _ _ _ _ _ _ _ _ _ _ _ _ _ _ _ _ _ _ _ _ _ _ _ _ _ _ _ _ _ _ _ _ _ _ _ _ _ _ _ _ _ _ _ _ _ _ _ _ _ _ _ _ _ _ _ _ _ _ l Al cl (.pointer (some X)) dp w w5 [(v3, [ia, ib]), (.slice Ah hb.length ch, hb)] T S1 st5 m f [ia, ib] hs (Lib.hid HUI.out.rs) (Lib.hid ⟨HG5.out, HT.out.2.2.2.1, HT.out.2.2.2.2⟩) K5 HJ (Lib.hid ?_) HR
          intro u6 u17 u80 u81 u82 u83 u84 u85 u86 u87 u88 u89 u90 u91 u92 u93 u94 u95 u96 u97 u98 u99 u100 u101 u102 u103 u104 u105 k S3 w6 hout
          obtain ⟨hk6, hjo⟩ := hout.out
          have hback := hjo.back fs
          have kI : (k : Int) ≤ 5 := by have := hjo.k_le; have := HG5.out; omega
          have K6 := Lib.hid hk6
          have HNX : Hid (JOff (bootS S3 fs) ∧ mostS (bootS S3 fs) 0 256 ≤ i + 1 ∧ (bootS S3 fs).ops ≤ 400 * (i + 1)) := Lib.hid ⟨hback.off, by have := hback.most; have := HT.out.2.1; omega, by
            show S3.ops ≤ _
            have := hjo.ops
            have := HT.out.2.2.1
            have := HST.out.2.2.1
            omega⟩
          have hcase : (f ≠ 0 ∧ S3.dead = true) ∨ (f = 0 ∧ k < l.length ∧ S3.dead = true) ∨ (f = 0 ∧ ¬ k < l.length) := by
            have h1 := hjo.k_le
            rcases hjo.dead with hd | ⟨h3, h4⟩
            · by_cases h3 : f = 0
              · by_cases h4 : k < l.length
                · exact .inr (.inl ⟨h3, h4, hd⟩)
                · exact .inr (.inr ⟨h3, h4⟩)
              · exact .inl ⟨h3, hd⟩
            · exact .inr (.inr ⟨h3, by omega⟩)
          have hload := hback.load
          clear hout hk6 hjo hback K5 HJ
          rcases hload with hload | ⟨hfn, hload⟩
          · have HA := Lib.hid hload
            clear hload
            rcases hcase with ⟨hf0, hd⟩ | ⟨hf0, hkl, hd⟩ | ⟨hf0, hkl⟩
            case' inl =>
              have fN : ((f : Int) != 0) = true := by rw [bne_iff_ne]; omega
              have fE : ((f : Int) == 0) = false := by rw [beq_eq_false_iff_ne]; omega
              have HD := Lib.hid hd
              clear hf0 hd
              go_wp2_with (fail)
              refine (dk_dead K6.out).mono ?_
              rintro e w7 ⟨rfl, k7⟩
              rw [HD.out]
              have K7 := Lib.hid k7
              clear k7 HD
              go_wp2_with (fail)
            case' inr.inl =>
              have fN : ((f : Int) != 0) = false := by rw [hf0]; rfl
              have fE : ((f : Int) == 0) = true := by rw [hf0]; rfl
              have kJ : (k : Int) < l.length := by omega
              have kD : decide ((k : Int) < (l.length : Int)) = true := decide_eq_true kJ
              have HD := Lib.hid hd
              clear hf0 hd hkl
              go_wp2_with (fail)
              refine (dk_dead K6.out).mono ?_
              rintro e w7 ⟨rfl, k7⟩
              rw [HD.out]
              have K7 := Lib.hid k7
              clear k7 HD
              go_wp2_with (fail)
            case' inr.inr =>
              have fN : ((f : Int) != 0) = false := by rw [hf0]; rfl
              have fE : ((f : Int) == 0) = true := by rw [hf0]; rfl
              have kJ : ¬ (k : Int) < l.length := by omega
              have kD : decide ((k : Int) < (l.length : Int)) = false := decide_eq_false kJ
              obtain ⟨w7, hw7⟩ : ∃ w7, w7 = w6 := ⟨_, rfl⟩
              subst hw7
              have K7 := Lib.hid K6.out
              clear hf0 hkl
              go_wp2_with (fail)
            all_goals
              refine (dk_boot K7.out hf.out (by have := hn.out.2.2; omega)).mono ?_
              rintro e w8 ⟨rfl, k8⟩
              have K8 := Lib.hid k8
              clear k8 K7 K6
              go_wp2_with (fail)
              refine (jk_open (JC := JC) K8.out).mono ?_
              rintro e w9 ⟨Y, st9, rfl, _, k9⟩
              have K9 := Lib.hid k9
              clear k9 K8
              go_wp2_with (fail)
              obtain ⟨⟨s0, hld⟩, rs, hrc, r1, r2, r3, r4⟩ := HA.out
              refine (jk_recover K9.out hs.out rs fun b n s h => ?_).mono ?_
              · rw [hld] at h
                simp only [Option.some.injEq, Prod.mk.injEq] at h
                obtain ⟨_, rfl, _⟩ := h
                exact hrc
              rintro e wA ⟨ha, kA, _⟩
              rw [hld] at ha
              obtain ⟨u, v, rfl, hu1, hv1⟩ := ha
              obtain ⟨Av, cv, rfl, hvm, _⟩ := hv1.ex
              obtain ⟨Az, cz, hsl, hra⟩ := HUI.out.head rs.length r3
              unfold maxLen at hvm
              have qI : (rs.length : Int) ≤ 9223372036854775807 := by omega
              have q1 : decide ((rs.length : Int) < (k : Int)) = false := decide_eq_false (by omega)
              have q2 : decide ((k : Int) + 1 < (rs.length : Int)) = false := decide_eq_false (by omega)
              have q3 : decide ((l.length : Int) < (rs.length : Int)) = false := decide_eq_false (by omega)
              have p1 : ¬ (rs.length : Int) < (k : Int) := by omega
              have p2 : ¬ (k : Int) + 1 < (rs.length : Int) := by omega
              have p3 : ¬ (l.length : Int) < (rs.length : Int) := by omega
              have KA := Lib.hid kA
              have HU1 := Lib.hid hu1
              have HV1 := Lib.hid hv1
              have HRA := Lib.hid hra
              have HR4 := Lib.hid r4
              have HHD : Hid (HadIs (bootS S3 fs) true [ia, ib] (i + 1)) := Lib.hid ⟨⟨i, ib, by omega, by rw [HIA.out]⟩, m + 1, s0, hld⟩
              clear kA hu1 hv1 hra r4 hld hrc r1 r2 r3 hvm K9 HA
              go_wp2_with (fail)
              refine (same_any _ _ [ia, ib] [ia, ib] wA HU1.out (KA.out.rd (List.mem_cons_self ..))).mono ?_
              rintro e wB ⟨rfl, nq, hwB⟩
              rw [decide_eq_true (rfl : [ia, ib] = [ia, ib])]
              have BLB : Below wA.heap.size wA wB := hwB ▸ below_drewN (Below.refl _ _) nq
              have KB := Lib.hid (KA.out.on BLB)
              have HV2 := Lib.hid (HV1.out.below BLB)
              clear BLB hwB KA HV1 HU1
              go_wp2_with (fail)
              all_goals try (exfalso; omega)
              refine (rows_any _ _ rs (l.take rs.length) wB HV2.out (HRA.out.below KB.out.old)).mono ?_
              rintro e wC ⟨rfl, nq2, hwC⟩
              rw [decide_eq_true HR4.out]
              have KC := Lib.hid (KB.out.on (hwC ▸ below_drewN (Below.refl _ _) nq2))
              clear hwC KB HV2
              go_wp2_with (fail)
              have hlt := HLT.out
              exact ⟨⟨i + 1, bootS S3 fs, true, [ia, ib], by go_num, by omega, rfl, KC.out.disk.less (fun q hq => by rw [List.mem_singleton.1 hq]; exact List.mem_cons_self ..), HNX.out.1, HNX.out.2.1, HNX.out.2.2, HHD.out⟩, by simp [intOf]; omega⟩
          · have hd : S3.dead = true := by
              rcases hcase with ⟨_, h⟩ | ⟨h, _⟩ | ⟨h, _⟩
              · exact h
              · exact absurd h hfn
              · exact absurd h hfn
            have fN : ((f : Int) != 0) = true := by rw [bne_iff_ne]; omega
            have fE : ((f : Int) == 0) = false := by rw [beq_eq_false_iff_ne]; omega
            have HD := Lib.hid hd
            have HLO : Hid (loadS fp8 (bootS S3 fs) 0 256 = loadS fp8 S 0 256) := Lib.hid (hload.trans HT.out.1)
            have i6 := HST.out.2.2.2.2
            have HI6 := Lib.hid i6
            clear hcase hfn hd hload i6
            go_wp2_with (fail)
            refine (dk_dead K6.out).mono ?_
            rintro e w7 ⟨rfl, k7⟩
            rw [HD.out]
            have K7 := Lib.hid k7
            clear k7 HD
            go_wp2_with (fail)
            refine (dk_boot K7.out hf.out (by have := hn.out.2.2; omega)).mono ?_
            rintro e w8 ⟨rfl, k8⟩
            have K8 := Lib.hid k8
            clear k8 K7 K6
            go_wp2_with (fail)
            refine (jk_open (JC := JC) K8.out).mono ?_
            rintro e w9 ⟨Y, st9, rfl, _, k9⟩
            have K9 := Lib.hid k9
            clear k9 K8
            go_wp2_with (fail)
            cases sm
            case false =>
              obtain ⟨hb0, hL⟩ := (HST.out.2.2.2.1 : hb = [] ∧ loadS fp8 S 0 256 = none)
              have hL2 := HLO.out.trans hL
              refine (jk_recover K9.out hs.out [] fun b n s h => ?_).mono ?_
              · rw [hL2] at h
                cases h
              rintro e wA ⟨ha, kA, _⟩
              rw [hL2] at ha
              obtain ⟨u, v, rfl⟩ := ha
              have KA := Lib.hid kA
              have HHD : Hid (HadIs (bootS S3 fs) false hb (i + 1)) := Lib.hid ⟨hb0, hL2⟩
              clear hb0 hL hL2 kA K9
              go_wp2_with (fail)
              have hlt := HLT.out
              exact ⟨⟨i + 1, bootS S3 fs, false, hb, by go_num, by omega, rfl, KA.out.disk.less (fun q hq => by rw [List.mem_singleton.1 hq]; exact List.mem_cons_of_mem _ (List.mem_singleton.2 rfl)), HNX.out.1, HNX.out.2.1, HNX.out.2.2, HHD.out⟩, by simp [intOf]; omega⟩
            case true =>
              obtain ⟨⟨j, x, hj, hbe⟩, n, s0, hL⟩ := (HST.out.2.2.2.1 : (∃ (j : Nat) (x : UInt8), j < i ∧ hb = [UInt8.ofNat j, x]) ∧ ∃ n s, loadS fp8 S 0 256 = some (hb, n, s))
              have hL2 := HLO.out.trans hL
              obtain ⟨rs, hrc⟩ := recs_exist (viewS (bootS S3 fs) 0) n 1024 0 512 (by omega)
              refine (jk_recover K9.out hs.out rs fun b n s h => ?_).mono ?_
              · rw [hL2] at h
                simp only [Option.some.injEq, Prod.mk.injEq] at h
                obtain ⟨_, rfl, _⟩ := h
                exact hrc
              rintro e wA ⟨ha, kA, _⟩
              rw [hL2] at ha
              obtain ⟨u, v, rfl, hu1, _⟩ := ha
              have hne : hb ≠ [ia, ib] := by
                rw [hbe]
                intro h
                injection h with h _
                rw [HIA.out] at h
                have h9 := congrArg UInt8.toNat h
                have h6 := HI6.out
                rw [UInt8.toNat_ofNat_of_lt' (by show j < 256; omega), UInt8.toNat_ofNat_of_lt' (by show i < 256; omega)] at h9
                omega
              have HNE := Lib.hid hne
              have KA := Lib.hid kA
              have HU1 := Lib.hid hu1
              have HHD : Hid (HadIs (bootS S3 fs) true hb (i + 1)) := Lib.hid ⟨⟨j, x, by omega, hbe⟩, n, s0, hL2⟩
              clear hj hbe hL hL2 hrc kA hu1 hne K9
              go_wp2_with (fail)
              refine (same_any _ _ hb [ia, ib] wA HU1.out (KA.out.rd (List.mem_cons_self ..))).mono ?_
              rintro e wB ⟨rfl, nq, hwB⟩
              rw [decide_eq_false HNE.out]
              have BLB : Below wA.heap.size wA wB := hwB ▸ below_drewN (Below.refl _ _) nq
              have KB := Lib.hid (KA.out.on BLB)
              have HU2 := Lib.hid (HU1.out.below BLB)
              clear BLB hwB KA HU1 HNE
              go_wp2_with (fail)
              refine (same_any _ _ hb hb wB HU2.out (KB.out.rd (List.mem_cons_of_mem _ (List.mem_singleton.2 rfl)))).mono ?_
              rintro e wC ⟨rfl, nq2, hwC⟩
              rw [decide_eq_true (rfl : hb = hb)]
              have KC := Lib.hid (KB.out.on (hwC ▸ below_drewN (Below.refl _ _) nq2))
              clear hwC KB HU2
              go_wp2_with (fail)
              have hlt := HLT.out
              exact ⟨⟨i + 1, bootS S3 fs, true, hb, by go_num, by omega, rfl, KC.out.disk.less (fun q hq => by rw [List.mem_singleton.1 hq]; exact List.mem_cons_of_mem _ (List.mem_singleton.2 rfl)), HNX.out.1, HNX.out.2.1, HNX.out.2.2, HHD.out⟩, by simp [intOf]; omega⟩
    · obtain rfl : i = ls.length := by omega
      have HE := Lib.hid hkp.old
      clear hkp hoff hmo hop hhad hi hlt
      go_wp2_with (fail)
      exact HQ.out _ _ _ _ _ _ _ _ _ _ _ _ _ _ _ _ _ _ _ _ _ _ _ _ _ _ _ _ _ _ _ _ _ _ _ _ _ _ _ _ _ _ _ _ _ _ _ _ _ _ _ _ _ _ _ _ _ _ _ _ _ _ _ _ _ _ _ _ _ _ _ _ _ _ _ _ _ _ _ _ _ _ _ _ _ _ _ _ _ _ _ _ _ _ _ _ _ _ _ _ _ _ _ _ _ _ _ _ _ _ _ _ _ _ _ _ _ _ _ _ _ _ _ _ _ _ _ _ _ _ _ _ _ _ _ _ _ _ _ _ _ _ _ _ _ _ _ _ _ _ _ _ _ _ _ _ _ _ _ _ _ _ _ _ _ _ _ _ _ _ _ _ _ _ _ _ _ _ _ _ _ _ _ HE
end Go.Proofs.YtbodiioemohenaaDoor
