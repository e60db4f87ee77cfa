/- The contracts of the developers' piece. Conditions: at most ten lists, at most a thousand pieces. -/
import Derived.Test.YthhojjdccfcicaaPcMlp
import Derived.Test.YthhojjdccfcicaaPcBtw
import Derived.Test.YthhojjdccfcicaaPcCon
namespace Go.Proofs.Ythhojjdccfcicaa
open Go.RowKit
noncomputable def body_mo : Code := (((Try.f13.body.map loopsOf).getD [])[0]?).getD .skip
set_option maxRecDepth 100000 in
set_option maxHeartbeats 8000000 in
theorem mo_loop (c0 c1 c2 c4 c5 c6 c7 c8 c9 c10 c11 c15 c16 c17 c18 c19 c20 c21 c22 c23 c24 c25 c26 c27 c28 c29 c30 c31 c32 c33 c34 c35 c36 c37 c38 c39 c40 c41 c42 c43 c44 c45 c46 c47 c48 c49 c50 c51 c52 : Value) (g c : Nat) (ls : List (List Pc)) (w0 w : World) (b : Nat) (hls : Hid (PsP w0 (.slice (some ⟨g, 0, none⟩) ls.length c) ls)) (hM : Hid (MgAt w0 b [] w)) (hk : Hid (ls.length ≤ 10)) (hn : Hid (ls.flatten.length ≤ 1000)) {Q : Exit → Act → World → Prop}
    (HQ : Hid (∀ (u5 u7 u8 u9 u10 u15 u16 u17 u18 u19 u20 u21 u22 u23 u24 u25 u26 u27 u28 u29 u30 u31 u32 u33 u34 u35 u36 u37 u38 u39 u40 u41 u42 u43 u44 u45 u46 u47 u48 u49 y : Value) (w' : World), Hid (MgAt w0 b ls.flatten w') → Q (.exit 0) ⟨List.toArray (c0 :: c1 :: c2 :: (.map (some b)) :: c4 :: u5 :: c6 :: u7 :: u8 :: u9 :: u10 :: c11 :: (.slice (some ⟨g, 0, none⟩) ls.length c) :: (.int .i64 (ls.length : Int)) :: y :: u15 :: u16 :: u17 :: u18 :: u19 :: u20 :: u21 :: u22 :: u23 :: u24 :: u25 :: u26 :: u27 :: u28 :: u29 :: u30 :: u31 :: u32 :: u33 :: u34 :: u35 :: u36 :: u37 :: u38 :: u39 :: u40 :: u41 :: u42 :: u43 :: u44 :: u45 :: u46 :: u47 :: u48 :: u49 :: c50 :: c51 :: c52 :: []), []⟩ w')) :
    (Code.loop body_mo).wp Try.prog Q ⟨List.toArray (c0 :: c1 :: c2 :: (.map (some b)) :: c4 :: c5 :: c6 :: c7 :: c8 :: c9 :: c10 :: c11 :: (.slice (some ⟨g, 0, none⟩) ls.length c) :: (.int .i64 (ls.length : Int)) :: (.int .i64 0) :: c15 :: c16 :: c17 :: c18 :: c19 :: c20 :: c21 :: c22 :: c23 :: c24 :: c25 :: c26 :: c27 :: c28 :: c29 :: c30 :: c31 :: c32 :: c33 :: c34 :: c35 :: c36 :: c37 :: c38 :: c39 :: c40 :: c41 :: c42 :: c43 :: c44 :: c45 :: c46 :: c47 :: c48 :: c49 :: c50 :: c51 :: c52 :: []), []⟩ w := by
  unfold body_mo
  conv => arg 2; arg 1; whnf
  go_loopw [14] (fun x wx => ∃ (i : Nat), x = .int .i64 (i : Int) ∧ i ≤ ls.length ∧ MgAt w0 b (ls.take i).flatten wx) (fun x _ => ls.length - (intOf x).toNat)
  case atStart => exact ⟨0, rfl, Nat.zero_le _, by rw [List.take_zero]; exact hM.out⟩
  case round =>
    obtain ⟨i, rfl, hi, hS⟩ := hrel
    have hkk := hk.out
    have pI : (ls.length : Int) ≤ 9223372036854775807 := by omega
    by_cases hlt : i < ls.length
    · have iI : (i : Int) < ls.length := by omega
      have HLT := Lib.hid hlt
      obtain ⟨ps, hps, u, hcu, hru⟩ : ∃ ps, ls[i]? = some ps ∧ ∃ u, w0.cell? ⟨g, i, none⟩ = some u ∧ RsP w0 u ps := by
        obtain ⟨g', c', he, _, h⟩ := hls.out
        injection he with he _ _
        injection he with he
        injection he with he _ _
        subst he
        exact ⟨_, List.getElem?_eq_getElem hlt, h i hlt⟩
      have hgl : g < w0.heap.size := by
        obtain ⟨g', c', he, h, _⟩ := hls.out
        injection he with he _ _
        injection he with he
        injection he with he _ _
        subst he
        exact h
      have HT : Hid ((ls.take (i + 1)).flatten = (ls.take i).flatten ++ ps) := Lib.hid (by
        rw [List.take_add_one, hps, List.flatten_append]
        simp)
      have HN : Hid ((ls.take i).flatten.length + ps.length ≤ 1000) := Lib.hid (by
        have h1 : ((ls.take (i + 1)).flatten ++ (ls.drop (i + 1)).flatten).length = ls.flatten.length := by
          rw [← List.flatten_append, List.take_append_drop]
        rw [HT.out, List.length_append, List.length_append] at h1
        have := hn.out
        omega)
      obtain ⟨A, ca, rfl, _⟩ := hru.form
      have hcw : wr.cell? ⟨g, i, none⟩ = some (.slice A ps.length ca) := (hS.below.cell (p := ⟨g, i, none⟩) hgl).trans hcu
      have HRU := Lib.hid hru
      have HS := Lib.hid hS
      clear hcu hru hps hlt hi hS hgl hkk
      go_wp2_with (fail)
      go_step3
      go_wp2_with (fail)
      go_step3
      go_wp2_with (fail)
      refine mi_loop _ _ _ _ _ _ _ _ _ _ _ _ _ _ _ _ _ _ _ _ _ _ _ _ _ _ _ _ _ _ _ _ _ _ _ _ _ _ _ _ _ _ _ _ _ _ _ _ _ A ca ps _ w0 wr b HRU HS HN (Lib.hid ?_)
      intro u7 u8 u9 u10 u21 u22 u23 u24 u25 u26 u27 u28 u29 u30 u31 u32 u33 u34 u35 u36 u37 u38 u39 u40 u41 u42 u43 u44 u45 u46 u47 u48 y w2 S2
      go_wp2_with (fail)
      rw [Exit.noGoto_normal]
      go_wp2_with (fail)
      have hlt := HLT.out
      refine ⟨⟨i + 1, by go_num, by omega, by rw [HT.out]; exact S2.out⟩, by simp [intOf]; omega⟩
    · obtain rfl : i = ls.length := by omega
      have HS : Hid (MgAt w0 b ls.flatten wr) := Lib.hid (by rw [List.take_length] at hS; exact hS)
      clear hS hlt hi hkk
      go_wp2_with (fail)
      exact HQ.out _ _ _ _ _ _ _ _ _ _ _ _ _ _ _ _ _ _ _ _ _ _ _ _ _ _ _ _ _ _ _ _ _ _ _ _ _ _ _ _ _ _ HS
set_option maxRecDepth 100000 in
set_option maxHeartbeats 8000000 in
theorem mergeP_any (v : Value) (ls : List (List Pc)) (w : World) (h : PsP w v ls) (hk : ls.length ≤ 10) (hn : ls.flatten.length ≤ 1000) :
    Calls Try.prog 13 #[v] w fun e w' => ∃ u M, e = .returned u ∧ MergedOf M ls.flatten ∧ RsP w' u M ∧ Below w.heap.size w w' := by
  have hls := h
  obtain ⟨g, c, rfl, _, _⟩ := h
  have HLS := Lib.hid hls
  have HK := Lib.hid hk
  have HN := Lib.hid hn
  have pI : (ls.length : Int) ≤ 9223372036854775807 := by omega
  have HOKS : Hid (∀ p ∈ ls.flatten, p.Ok) := Lib.hid fun p hp => by
    obtain ⟨l, hl, hpl⟩ := List.mem_flatten.1 hp
    obtain ⟨i, hi, rfl⟩ := List.getElem_of_mem hl
    obtain ⟨_, _, _, _, h⟩ := hls
    obtain ⟨u, _, hr⟩ := h i hi
    exact hr.ok p hpl
  clear hls hk hn
  go_enter Try.func13, Try.ntmps13
  go_wp2_with (with_reducible refine here_map ?_
               refine wpList_makeMapK placeK rfl 43 rfl w.heap.size rfl ?_
               intro w1 hm1 hb1 hs1
               have S1 : Hid (MgAt w w.heap.size [] w1) := Lib.hid ⟨⟨fun _ => none, hm1, MgOf.start⟩, Nat.le_refl _, hb1⟩
               clear hm1 hb1 hs1)
  refine mo_loop _ _ _ _ _ _ _ _ _ _ _ _ _ _ _ _ _ _ _ _ _ _ _ _ _ _ _ _ _ _ _ _ _ _ _ _ _ _ _ _ _ _ _ _ _ _ _ _ _ g c ls w w1 w.heap.size HLS S1 HK HN (Lib.hid ?_)
  intro u5 u7 u8 u9 u10 u15 u16 u17 u18 u19 u20 u21 u22 u23 u24 u25 u26 u27 u28 u29 u30 u31 u32 u33 u34 u35 u36 u37 u38 u39 u40 u41 u42 u43 u44 u45 u46 u47 u48 u49 y w2 S2
  obtain ⟨f, hmap, hmg⟩ := S2.out.map
  have HMP := Lib.hid hmap
  have HMG := Lib.hid hmg
  have HV := Lib.hid (values_any (some w.heap.size) w2)
  have hn := HN.out
  have HSO := Lib.hid (sortedP_any hmap (by omega))
  clear hmap hmg hn
  go_wp2_with (fail)
  refine (HV.out).mono ?_
  rintro e w3 ⟨rfl, h⟩
  subst h
  go_wp2_with (fail)
  refine (HSO.out).mono ?_
  rintro e w3 ⟨u, xs, qs, rfl, hvs, hp, hq, hr, hb⟩
  have HE : Hid (∃ u' M, Ending.returned u = .returned u' ∧ MergedOf M ls.flatten ∧ RsP w3 u' M ∧ Below w.heap.size w w3) := Lib.hid (by
    have hM := HMG.out.merged hvs hp hq
    have hl := merged_len hM
    have h1 := HN.out
    refine ⟨u, _, rfl, hM, ownR_rsp (base := w2.heap.size + 1) (e := 27) (l := qs.map (·.1)) ?_ (fun p hp => ?_) (by unfold maxLen; omega), S2.out.below.trans (hb.mono S2.out.below.size)⟩
    · have e : pcRows (qs.map (·.1)) = qs.map encP := by unfold pcRows; rw [List.map_map]; rfl
      rw [e]
      exact hr
    · obtain ⟨q, _, rfl⟩ := List.mem_map.1 hp
      exact q.2)
  clear hvs hp hq hr hb
  go_wp2_with (fail)
  go_ret
  exact HE.out
theorem piecec : PieceC where
  check p w hp := chkP_any p w hp
  above n o m q w _ _ _ _ := aboveP_any n o m q w
  less a b w _ _ := lessP_any a b w
  merge v ls w h hk hn := mergeP_any v ls w h hk hn
  between v ps a b w h hn _ _ := betweenP_any v ps a b w h hn
end Go.Proofs.Ythhojjdccfcicaa
