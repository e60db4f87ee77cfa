/- The fifteenth reference's Print, of questions whose sign is 0. Condition: at most 8, of words. -/
import Derived.Test.YtckgpocfcanokaaLbPart
import Derived.Test.YtckgpocfcanokaaLbWrd
import Derived.Test.YtckgpocfcanokaaKept
import Derived.Deep.RegionHeld3
import Derived.Deep.Cut
namespace Go.Proofs.Ytckgpocfcanokaa
open Go.RowKit

/-- The text so far. -/
def SoFar (n : ByteArray) (qs : List Qu) (j : Nat) (b : ByteArray) : Prop := b.toList = n.toList ++ partB 0 (qs.take j)
theorem SoFar.size {n : ByteArray} {qs : List Qu} {j : Nat} {b : ByteArray} (h : SoFar n qs j b) (hn : n.size ≤ 24) (hq : ∀ q ∈ qs, q.n.size ≤ 24 ∧ q.v.size ≤ 24) (hl : qs.length ≤ 8) : b.size ≤ 432 := by
  have h1 := congrArg List.length h
  have h2 := partB_len 0 (qs.take j) fun q hq' => hq q (List.mem_of_mem_take hq')
  have h3 : (qs.take j).length ≤ 8 := by rw [List.length_take]; omega
  rw [bl_size, List.length_append, bl_size] at h1
  omega
theorem SoFar.next {n : ByteArray} {qs : List Qu} {j : Nat} {b s u : ByteArray} {t : List UInt8} (h : SoFar n qs j b) (hq : qs[j]? = some ⟨s, 0, u⟩) (ht : t = if j = 0 then [123] else [44]) {c d : ByteArray} (hc : c.toList = t) (hd : d.toList = [61]) : SoFar n qs (j + 1) (((b ++ c) ++ s ++ d) ++ u) := by
  obtain ⟨hj, e⟩ := List.getElem?_eq_some_iff.1 hq
  have h1 : qs.take (j + 1) = qs.take j ++ [⟨s, 0, u⟩] := by rw [List.take_succ_eq_append_getElem hj, e]
  have h2 : (qs.take j).length = j := by rw [List.length_take]; omega
  unfold SoFar at h ⊢
  rw [h1, partB_snoc, h2, Nat.zero_add, pieceB, bl_append, bl_append, bl_append, bl_append, h, hc, hd, ht]
  simp [sgB]
noncomputable def body_lpr : Code := (((Try.f20.body.map loopsOf).getD [])[0]?).getD .skip
set_option maxRecDepth 100000 in
set_option maxHeartbeats 4000000 in
theorem lpr_loop (c0 c2 c5 c6 c7 c8 c9 c10 c11 c12 c13 c14 c15 c16 c17 c18 c19 c20 c21 c22 c23 c24 c25 c26 c27 c28 c29 c30 c31 c32 c33 c34 c35 c36 c37 c38 c39 c40 c41 c42 c43 c44 c45 c46 c47 c48 c49 c50 c51 : Value) (A : Option Addr) (c Z : Nat) (n : ByteArray) (qs : List Qu) (w : World) (hx : Hid (Blk w Z 28 [.string n, .slice A qs.length c])) (hr : Hid (RsQu w (.slice A qs.length c) qs)) (hn : Hid (n.size ≤ 24 ∧ qs.length ≤ 8 ∧ ∀ q ∈ qs, q.n.size ≤ 24 ∧ q.v.size ≤ 24)) (hg : Hid (∀ q ∈ qs, q.g = 0)) {Q : Exit → Act → World → Prop}
    (HQ : Hid (∀ (u7 u8 u9 u10 u11 u12 u13 u14 u15 u16 u17 u18 u19 u20 u21 u22 u23 u24 u25 u26 u27 u28 u29 u30 u31 u32 u33 u34 u35 u36 u37 u38 u39 u40 u41 u42 u43 u44 y : Value) (b : ByteArray) (w' : World), Hid (SoFar n qs qs.length b) → Hid (Below w.heap.size w w') → Q (.exit 0) ⟨List.toArray (c0 :: (.pointer (some ⟨Z, 0, none⟩)) :: c2 :: (.string b) :: y :: c5 :: c6 :: u7 :: u8 :: u9 :: u10 :: u11 :: u12 :: u13 :: u14 :: u15 :: u16 :: u17 :: u18 :: u19 :: u20 :: u21 :: u22 :: u23 :: u24 :: u25 :: u26 :: u27 :: u28 :: u29 :: u30 :: u31 :: u32 :: u33 :: u34 :: u35 :: u36 :: u37 :: u38 :: u39 :: u40 :: u41 :: u42 :: u43 :: u44 :: c45 :: c46 :: c47 :: c48 :: c49 :: c50 :: c51 :: []), []⟩ w')) :
    (Code.loop body_lpr).wp Try.prog Q ⟨List.toArray (c0 :: (.pointer (some ⟨Z, 0, none⟩)) :: c2 :: (.string n) :: (.int .i64 0) :: c5 :: c6 :: c7 :: c8 :: c9 :: c10 :: c11 :: c12 :: c13 :: c14 :: c15 :: c16 :: c17 :: c18 :: c19 :: c20 :: c21 :: c22 :: c23 :: c24 :: c25 :: c26 :: c27 :: c28 :: c29 :: c30 :: c31 :: c32 :: c33 :: c34 :: c35 :: c36 :: c37 :: c38 :: c39 :: c40 :: c41 :: c42 :: c43 :: c44 :: c45 :: c46 :: c47 :: c48 :: c49 :: c50 :: c51 :: []), []⟩ w := by
  unfold body_lpr
  conv => arg 2; arg 1; whnf
  go_loopw [3, 4] (fun x y wx => ∃ (j : Nat) (b : ByteArray), y = .int .i64 (j : Int) ∧ x = .string b ∧ j ≤ qs.length ∧ SoFar n qs j b ∧ Below w.heap.size w wx) (fun _ y _ => qs.length - (intOf y).toNat)
  case atStart => exact ⟨0, n, rfl, rfl, Nat.zero_le _, by unfold SoFar; simp [partB], Below.refl _ _⟩
  case round =>
    obtain ⟨j, b, rfl, rfl, hj, hsf, hbw⟩ := hrel
    have HBW := Lib.hid hbw
    have HSF := Lib.hid hsf
    have hl := hn.out.2.1
    have b1 : wr.cell? ⟨Z, 1, none⟩ = some (.slice A qs.length c) := by rw [hbw.cell (p := ⟨Z, 1, none⟩) hx.out.lt, hx.out.cell]; rfl
    have pI : (qs.length : Int) ≤ 8 := by omega
    by_cases hlt : j < qs.length
    · have jI : (j : Int) < qs.length := by omega
      have HLT := Lib.hid hlt
      obtain ⟨q, hq⟩ : ∃ q, qs[j]? = some q := ⟨_, List.getElem?_eq_getElem hlt⟩
      have hq0 := hg.out q (List.mem_of_getElem? hq)
      obtain ⟨hs1, hs2⟩ := hn.out.2.2 q (List.mem_of_getElem? hq)
      obtain ⟨g, o, rfl⟩ := hr.out.addr hq
      have hgl : g < w.heap.size := by
        obtain ⟨g', o', he, h, _⟩ := hr.out.row.at' (i := j) (r := quV q) (by rw [List.getElem?_map, hq]; rfl)
        injection he with he
        injection he with he _ _
        rw [he]
        exact h
      obtain ⟨_, q0, q1, q2⟩ := hr.out.cells hq
      obtain ⟨s, g0, u⟩ := q
      simp only at q0 q1 q2 hq0 hs1 hs2
      subst hq0
      have HS : Hid (∀ V, Below w.heap.size w V → V.cell? ⟨Z, 1, none⟩ = some (.slice (some ⟨g, o, none⟩) qs.length c) ∧ V.cell? ⟨g, o + j * 3, none⟩ = some (.string s) ∧ V.cell? ⟨g, o + j * 3 + 1, none⟩ = some (.int .i64 0) ∧ V.cell? ⟨g, o + j * 3 + 2, none⟩ = some (.string u)) := Lib.hid fun V hb => ⟨by rw [hb.cell (p := ⟨Z, 1, none⟩) hx.out.lt, hx.out.cell]; rfl, by rw [hb.cell (p := ⟨g, o + j * 3, none⟩) hgl]; exact q0, by rw [hb.cell (p := ⟨g, o + j * 3 + 1, none⟩) hgl]; exact q1, by rw [hb.cell (p := ⟨g, o + j * 3 + 2, none⟩) hgl]; exact q2⟩
      have HB0 : Hid (Below w.heap.size w wr.drew) := Lib.hid hbw.drew
      have hbs := hsf.size hn.out.1 hn.out.2.2 hl
      have z0 : (b.size : Int) ≤ 432 := by omega
      have z1 : (s.size : Int) ≤ 24 := by omega
      have z2 : (u.size : Int) ≤ 24 := by omega
      have HQJ := Lib.hid hq
      clear hq q0 q1 q2 hgl hs1 hs2 hbs hl hj hsf hbw
      by_cases hj0 : j = 0
      · have j0 : ((j : Int) == 0) = true := by rw [beq_iff_eq]; omega
        have HNX : Hid (SoFar n qs (j + 1) (((b ++ ⟨#[123]⟩) ++ s ++ ⟨#[61]⟩) ++ u)) := Lib.hid (HSF.out.next HQJ.out (t := [123]) (by rw [if_pos hj0]) (by rw [ByteArray.toList_eq]) (by rw [ByteArray.toList_eq]))
        obtain ⟨b2, hb2⟩ : ∃ b2, b2 = b ++ (⟨#[123]⟩ : ByteArray) := ⟨_, rfl⟩
        have z3 : (b2.size : Int) ≤ 433 := by rw [hb2, ByteArray.size_append]; have : (⟨#[123]⟩ : ByteArray).size = 1 := rfl; omega
        have HB2 := Lib.hid hb2
        rw [← hb2] at HNX
        obtain ⟨b3, hb3⟩ : ∃ b3, b3 = b2 ++ s := ⟨_, rfl⟩
        have z4 : (b3.size : Int) ≤ 457 := by rw [hb3, ByteArray.size_append]; omega
        have E3 := hb3.symm
        obtain ⟨b4, hb4⟩ : ∃ b4, b4 = b3 ++ (⟨#[61]⟩ : ByteArray) := ⟨_, rfl⟩
        have z5 : (b4.size : Int) ≤ 458 := by rw [hb4, ByteArray.size_append]; have : (⟨#[61]⟩ : ByteArray).size = 1 := rfl; omega
        have E4 := hb4.symm
        rw [← hb3, ← hb4] at HNX
        have E2 := hb2.symm
        have l1 : ¬ 9223372036854775807 < b2.size + s.size := by omega
        have l2 : ¬ 9223372036854775807 < b3.size + 1 := by omega
        have l3 : ¬ 9223372036854775807 < b4.size + u.size := by omega
        clear hb2 hb3 hb4 hj0 hlt
        go_wp2_with (fail)
        refine wp_region_noPanic ?_
        refine wp_region_held_drew (S := fun V => V.cell? ⟨Z, 1, none⟩ = some (.slice (some ⟨g, o, none⟩) qs.length c) ∧ V.cell? ⟨g, o + j * 3, none⟩ = some (.string s) ∧ V.cell? ⟨g, o + j * 3 + 1, none⟩ = some (.int .i64 0) ∧ V.cell? ⟨g, o + j * 3 + 2, none⟩ = some (.string u)) (by kernel_rfl) (HS.out _ HB0.out) (fun hHeld => ?_)
        refine take_put (i := 0) (oi := _) (v := ?_) 20 rfl rfl (by kernel_rfl) (by kernel_rfl) (by kernel_rfl) (fun _ _ _ h => h) (Or.inl ⟨by rfl, ?hy0⟩) (by assumption) ?_
        case hy0 => ((intro W hSw); (try dsimp only at hSw); go_simp; try (with_reducible rfl))
        simp only [List.set_cons_zero, List.set_cons_succ]
        refine take_put (i := 1) (oi := _) (v := ?_) 21 rfl rfl (by kernel_rfl) (by kernel_rfl) (by kernel_rfl) (fun _ _ _ h => h) (Or.inl ⟨by rfl, ?hy1⟩) (by assumption) ?_
        case hy1 => ((intro W hSw); (try dsimp only at hSw); go_simp; try (with_reducible rfl))
        simp only [List.set_cons_zero, List.set_cons_succ]
        refine take_put (i := 2) (oi := _) (v := ?_) 22 rfl rfl (by kernel_rfl) (by kernel_rfl) (by kernel_rfl) (fun _ _ _ h => h) (Or.inl ⟨by rfl, ?hy2⟩) (by assumption) ?_
        case hy2 => ((intro W hSw); (try dsimp only at hSw); go_simp; try (with_reducible rfl))
        simp only [List.set_cons_zero, List.set_cons_succ]
        refine take_put (i := 3) (oi := _) (v := ?_) 23 rfl rfl (by kernel_rfl) (by kernel_rfl) (by kernel_rfl) (fun _ _ _ h => h) (Or.inl ⟨by rfl, ?hy3⟩) (by assumption) ?_
        case hy3 => ((intro W hSw); (try dsimp only at hSw); go_simp; try (with_reducible rfl))
        simp only [List.set_cons_zero, List.set_cons_succ]
        refine take_put (i := 4) (oi := _) (v := ?_) 24 rfl rfl (by kernel_rfl) (by kernel_rfl) (by kernel_rfl) (fun _ _ _ h => h) (Or.inl ⟨by rfl, ?hy4⟩) (by assumption) ?_
        case hy4 => ((intro W hSw); (try dsimp only at hSw); go_simp; try (with_reducible rfl))
        simp only [List.set_cons_zero, List.set_cons_succ]
        refine take_put (i := 5) (oi := _) (v := ?_) 25 rfl rfl (by kernel_rfl) (by kernel_rfl) (by kernel_rfl) (fun _ _ _ h => h) (Or.inl ⟨by rfl, ?hy5⟩) (by assumption) ?_
        case hy5 => ((intro W hSw); (try dsimp only at hSw); go_simp; try (with_reducible rfl))
        simp only [List.set_cons_zero, List.set_cons_succ]
        refine take_put (i := 6) (oi := _) (v := ?_) 26 rfl rfl (by kernel_rfl) (by kernel_rfl) (by kernel_rfl) (fun _ _ _ h => h) (Or.inl ⟨by rfl, ?hy6⟩) (by assumption) ?_
        case hy6 => ((intro W hSw); (try dsimp only at hSw); go_simp; try (with_reducible rfl))
        simp only [List.set_cons_zero, List.set_cons_succ]
        refine take_put (i := 7) (oi := _) (v := ?_) 27 rfl rfl (by kernel_rfl) (by kernel_rfl) (by kernel_rfl) (fun _ _ _ h => h) (Or.inl ⟨by rfl, ?hy7⟩) (by assumption) ?_
        case hy7 => ((intro W hSw); (try dsimp only at hSw); go_simp; try (with_reducible rfl))
        simp only [List.set_cons_zero, List.set_cons_succ]
        refine take_put (i := 9) (oi := _) (v := ?_) 29 rfl rfl (by kernel_rfl) (by kernel_rfl) (by kernel_rfl) (fun _ _ _ h => h) (Or.inl ⟨by rfl, ?hy9⟩) (by assumption) ?_
        case hy9 => ((intro W hSw); (try dsimp only at hSw); go_simp; try (with_reducible rfl))
        simp only [List.set_cons_zero, List.set_cons_succ]
        refine take_put (i := 10) (oi := _) (v := ?_) 30 rfl rfl (by kernel_rfl) (by kernel_rfl) (by kernel_rfl) (fun _ _ _ h => h) (Or.inl ⟨by rfl, ?hy10⟩) (by assumption) ?_
        case hy10 => ((intro W hSw); (try dsimp only at hSw); go_simp; try (with_reducible rfl))
        simp only [List.set_cons_zero, List.set_cons_succ]
        refine take_put (i := 11) (oi := _) (v := ?_) 31 rfl rfl (by kernel_rfl) (by kernel_rfl) (by kernel_rfl) (fun _ _ _ h => h) (Or.inl ⟨by rfl, ?hy11⟩) (by assumption) ?_
        case hy11 => ((intro W hSw); (try dsimp only at hSw); go_simp; try (with_reducible rfl))
        simp only [List.set_cons_zero, List.set_cons_succ]
        refine take_put (i := 12) (oi := _) (v := ?_) 32 rfl rfl (by kernel_rfl) (by kernel_rfl) (by kernel_rfl) (fun _ _ _ h => h) (Or.inl ⟨by rfl, ?hy12⟩) (by assumption) ?_
        case hy12 => ((intro W hSw); (try dsimp only at hSw); go_simp; try (with_reducible rfl))
        simp only [List.set_cons_zero, List.set_cons_succ]
        refine take_put (i := 13) (oi := _) (v := ?_) 33 rfl rfl (by kernel_rfl) (by kernel_rfl) (by kernel_rfl) (fun _ _ _ h => h) (Or.inl ⟨by rfl, ?hy13⟩) (by assumption) ?_
        case hy13 => ((intro W hSw); (try dsimp only at hSw); go_simp; try (with_reducible rfl))
        simp only [List.set_cons_zero, List.set_cons_succ]
        refine take_put (i := 14) (oi := _) (v := ?_) 34 rfl rfl (by kernel_rfl) (by kernel_rfl) (by kernel_rfl) (fun _ _ _ h => h) (Or.inl ⟨by rfl, ?hy14⟩) (by assumption) ?_
        case hy14 => ((intro W hSw); (try dsimp only at hSw); go_simp; try (with_reducible rfl))
        simp only [List.set_cons_zero, List.set_cons_succ]
        refine take_put (i := 18) (oi := _) (v := ?_) 38 rfl rfl (by kernel_rfl) (by kernel_rfl) (by kernel_rfl) (fun _ _ _ h => h) (Or.inl ⟨by rfl, ?hy18⟩) (by assumption) ?_
        case hy18 => ((intro W hSw); (try dsimp only at hSw); go_simp; try (with_reducible rfl))
        simp only [List.set_cons_zero, List.set_cons_succ]
        refine take_put (i := 19) (oi := _) (v := ?_) 39 rfl rfl (by kernel_rfl) (by kernel_rfl) (by kernel_rfl) (fun _ _ _ h => h) (Or.inl ⟨by rfl, ?hy19⟩) (by assumption) ?_
        case hy19 => ((intro W hSw); (try dsimp only at hSw); go_simp; try (with_reducible rfl))
        simp only [List.set_cons_zero, List.set_cons_succ]
        refine take_put (i := 20) (oi := _) (v := ?_) 40 rfl rfl (by kernel_rfl) (by kernel_rfl) (by kernel_rfl) (fun _ _ _ h => h) (Or.inl ⟨by rfl, ?hy20⟩) (by assumption) ?_
        case hy20 => ((intro W hSw); (try dsimp only at hSw); go_simp; try (with_reducible rfl))
        simp only [List.set_cons_zero, List.set_cons_succ]
        refine take_put (i := 21) (oi := _) (v := ?_) 41 rfl rfl (by kernel_rfl) (by kernel_rfl) (by kernel_rfl) (fun _ _ _ h => h) (Or.inl ⟨by rfl, ?hy21⟩) (by assumption) ?_
        case hy21 => ((intro W hSw); (try dsimp only at hSw); go_simp; try (with_reducible rfl))
        simp only [List.set_cons_zero, List.set_cons_succ]
        refine take_put (i := 22) (oi := _) (v := ?_) 42 rfl rfl (by kernel_rfl) (by kernel_rfl) (by kernel_rfl) (fun _ _ _ h => h) (Or.inl ⟨by rfl, ?hy22⟩) (by assumption) ?_
        case hy22 => ((intro W hSw); (try dsimp only at hSw); go_simp; try (with_reducible rfl))
        simp only [List.set_cons_zero, List.set_cons_succ]
        refine take_put (i := 23) (oi := _) (v := ?_) 43 rfl rfl (by kernel_rfl) (by kernel_rfl) (by kernel_rfl) (fun _ _ _ h => h) (Or.inl ⟨by rfl, ?hy23⟩) (by assumption) ?_
        case hy23 => ((intro W hSw); (try dsimp only at hSw); go_simp; try (with_reducible rfl))
        simp only [List.set_cons_zero, List.set_cons_succ]
        refine wpAnyH_ready (rs := [8]) (by kernel_rfl) (by simp) ?_
        refine AllReadyH.cons (o := _) rfl (fun K hK => ?_) AllReadyH.nil
        go_simp
        refine hK.out _ _ (HS.out _ (HB0.out.alloc HB0.out.size _)) (fun hHeld => ?_)
        clear hK K
        try simp only [Act.put, List.setIfInBounds_toArray, List.set_cons_zero, List.set_cons_succ]
        refine take_put (i := 15) (oi := _) (v := ?_) 35 rfl rfl (by kernel_rfl) (by kernel_rfl) (by kernel_rfl) (fun _ _ _ h => h) (Or.inl ⟨by rfl, ?hy15⟩) (by assumption) ?_
        case hy15 => ((intro W hSw); (try dsimp only at hSw); go_simp; try (with_reducible rfl))
        simp only [List.set_cons_zero, List.set_cons_succ]
        refine wpAnyH_ready (rs := [16]) (by kernel_rfl) (by simp) ?_
        refine AllReadyH.cons (o := _) rfl (fun K hK => ?_) AllReadyH.nil
        go_simp
        refine hK.out _ _ (HS.out _ (HB0.out.alloc HB0.out.size _)) (fun hHeld => ?_)
        clear hK K
        try simp only [Act.put, List.setIfInBounds_toArray, List.set_cons_zero, List.set_cons_succ]
        refine take_put (i := 17) (oi := _) (v := ?_) 37 rfl rfl (by kernel_rfl) (by kernel_rfl) (by kernel_rfl) (fun _ _ _ h => h) (Or.inl ⟨by rfl, ?hy17⟩) (by assumption) ?_
        case hy17 => ((intro W hSw); (try dsimp only at hSw); go_simp; try (with_reducible rfl))
        simp only [List.set_cons_zero, List.set_cons_succ]
        refine take_put (i := 24) (oi := _) (v := ?_) 44 rfl rfl (by kernel_rfl) (by kernel_rfl) (by kernel_rfl) (fun _ _ _ h => h) (Or.inl ⟨by rfl, ?hy24⟩) (by assumption) ?_
        case hy24 => ((intro W hSw); (try dsimp only at hSw); go_simp; try (with_reducible rfl))
        simp only [List.set_cons_zero, List.set_cons_succ]
        refine take_put (i := 25) (oi := _) (v := ?_) 3 rfl rfl (by kernel_rfl) (by kernel_rfl) (by kernel_rfl) (fun _ _ _ h => h) (Or.inl ⟨by rfl, ?hy25⟩) (by assumption) ?_
        case hy25 => ((intro W hSw); (try dsimp only at hSw); go_simp; try (with_reducible rfl))
        simp only [List.set_cons_zero, List.set_cons_succ]
        refine wpAnyH_done (by kernel_rfl) ?_ _
        refine NoPanic.normal ?_
        go_wp2_with (fail)
        refine ⟨⟨j + 1, _, by go_num, by rfl, HLT.out, HNX.out, (HB0.out.alloc HB0.out.size _)⟩, by simp [intOf]; omega⟩
      · have j0 : ((j : Int) == 0) = false := by rw [beq_eq_false_iff_ne]; omega
        have HNX : Hid (SoFar n qs (j + 1) (((b ++ ⟨#[44]⟩) ++ s ++ ⟨#[61]⟩) ++ u)) := Lib.hid (HSF.out.next HQJ.out (t := [44]) (by rw [if_neg hj0]) (by rw [ByteArray.toList_eq]) (by rw [ByteArray.toList_eq]))
        obtain ⟨b2, hb2⟩ : ∃ b2, b2 = b ++ (⟨#[44]⟩ : ByteArray) := ⟨_, rfl⟩
        have z3 : (b2.size : Int) ≤ 433 := by rw [hb2, ByteArray.size_append]; have : (⟨#[44]⟩ : ByteArray).size = 1 := rfl; omega
        have HB2 := Lib.hid hb2
        rw [← hb2] at HNX
        obtain ⟨b3, hb3⟩ : ∃ b3, b3 = b2 ++ s := ⟨_, rfl⟩
        have z4 : (b3.size : Int) ≤ 457 := by rw [hb3, ByteArray.size_append]; omega
        have E3 := hb3.symm
        obtain ⟨b4, hb4⟩ : ∃ b4, b4 = b3 ++ (⟨#[61]⟩ : ByteArray) := ⟨_, rfl⟩
        have z5 : (b4.size : Int) ≤ 458 := by rw [hb4, ByteArray.size_append]; have : (⟨#[61]⟩ : ByteArray).size = 1 := rfl; omega
        have E4 := hb4.symm
        rw [← hb3, ← hb4] at HNX
        have E2 := hb2.symm
        have l1 : ¬ 9223372036854775807 < b2.size + s.size := by omega
        have l2 : ¬ 9223372036854775807 < b3.size + 1 := by omega
        have l3 : ¬ 9223372036854775807 < b4.size + u.size := by omega
        clear hb2 hb3 hb4 hj0 hlt
        go_wp2_with (fail)
        refine wp_region_noPanic ?_
        refine wp_region_held_drew (S := fun V => V.cell? ⟨Z, 1, none⟩ = some (.slice (some ⟨g, o, none⟩) qs.length c) ∧ V.cell? ⟨g, o + j * 3, none⟩ = some (.string s) ∧ V.cell? ⟨g, o + j * 3 + 1, none⟩ = some (.int .i64 0) ∧ V.cell? ⟨g, o + j * 3 + 2, none⟩ = some (.string u)) (by kernel_rfl) (HS.out _ HB0.out) (fun hHeld => ?_)
        refine take_put (i := 0) (oi := _) (v := ?_) 20 rfl rfl (by kernel_rfl) (by kernel_rfl) (by kernel_rfl) (fun _ _ _ h => h) (Or.inl ⟨by rfl, ?hy0⟩) (by assumption) ?_
        case hy0 => ((intro W hSw); (try dsimp only at hSw); go_simp; try (with_reducible rfl))
        simp only [List.set_cons_zero, List.set_cons_succ]
        refine take_put (i := 1) (oi := _) (v := ?_) 21 rfl rfl (by kernel_rfl) (by kernel_rfl) (by kernel_rfl) (fun _ _ _ h => h) (Or.inl ⟨by rfl, ?hy1⟩) (by assumption) ?_
        case hy1 => ((intro W hSw); (try dsimp only at hSw); go_simp; try (with_reducible rfl))
        simp only [List.set_cons_zero, List.set_cons_succ]
        refine take_put (i := 2) (oi := _) (v := ?_) 22 rfl rfl (by kernel_rfl) (by kernel_rfl) (by kernel_rfl) (fun _ _ _ h => h) (Or.inl ⟨by rfl, ?hy2⟩) (by assumption) ?_
        case hy2 => ((intro W hSw); (try dsimp only at hSw); go_simp; try (with_reducible rfl))
        simp only [List.set_cons_zero, List.set_cons_succ]
        refine take_put (i := 3) (oi := _) (v := ?_) 23 rfl rfl (by kernel_rfl) (by kernel_rfl) (by kernel_rfl) (fun _ _ _ h => h) (Or.inl ⟨by rfl, ?hy3⟩) (by assumption) ?_
        case hy3 => ((intro W hSw); (try dsimp only at hSw); go_simp; try (with_reducible rfl))
        simp only [List.set_cons_zero, List.set_cons_succ]
        refine take_put (i := 4) (oi := _) (v := ?_) 24 rfl rfl (by kernel_rfl) (by kernel_rfl) (by kernel_rfl) (fun _ _ _ h => h) (Or.inl ⟨by rfl, ?hy4⟩) (by assumption) ?_
        case hy4 => ((intro W hSw); (try dsimp only at hSw); go_simp; try (with_reducible rfl))
        simp only [List.set_cons_zero, List.set_cons_succ]
        refine take_put (i := 5) (oi := _) (v := ?_) 25 rfl rfl (by kernel_rfl) (by kernel_rfl) (by kernel_rfl) (fun _ _ _ h => h) (Or.inl ⟨by rfl, ?hy5⟩) (by assumption) ?_
        case hy5 => ((intro W hSw); (try dsimp only at hSw); go_simp; try (with_reducible rfl))
        simp only [List.set_cons_zero, List.set_cons_succ]
        refine take_put (i := 6) (oi := _) (v := ?_) 26 rfl rfl (by kernel_rfl) (by kernel_rfl) (by kernel_rfl) (fun _ _ _ h => h) (Or.inl ⟨by rfl, ?hy6⟩) (by assumption) ?_
        case hy6 => ((intro W hSw); (try dsimp only at hSw); go_simp; try (with_reducible rfl))
        simp only [List.set_cons_zero, List.set_cons_succ]
        refine take_put (i := 7) (oi := _) (v := ?_) 27 rfl rfl (by kernel_rfl) (by kernel_rfl) (by kernel_rfl) (fun _ _ _ h => h) (Or.inl ⟨by rfl, ?hy7⟩) (by assumption) ?_
        case hy7 => ((intro W hSw); (try dsimp only at hSw); go_simp; try (with_reducible rfl))
        simp only [List.set_cons_zero, List.set_cons_succ]
        refine take_put (i := 9) (oi := _) (v := ?_) 29 rfl rfl (by kernel_rfl) (by kernel_rfl) (by kernel_rfl) (fun _ _ _ h => h) (Or.inl ⟨by rfl, ?hy9⟩) (by assumption) ?_
        case hy9 => ((intro W hSw); (try dsimp only at hSw); go_simp; try (with_reducible rfl))
        simp only [List.set_cons_zero, List.set_cons_succ]
        refine take_put (i := 10) (oi := _) (v := ?_) 30 rfl rfl (by kernel_rfl) (by kernel_rfl) (by kernel_rfl) (fun _ _ _ h => h) (Or.inl ⟨by rfl, ?hy10⟩) (by assumption) ?_
        case hy10 => ((intro W hSw); (try dsimp only at hSw); go_simp; try (with_reducible rfl))
        simp only [List.set_cons_zero, List.set_cons_succ]
        refine take_put (i := 11) (oi := _) (v := ?_) 31 rfl rfl (by kernel_rfl) (by kernel_rfl) (by kernel_rfl) (fun _ _ _ h => h) (Or.inl ⟨by rfl, ?hy11⟩) (by assumption) ?_
        case hy11 => ((intro W hSw); (try dsimp only at hSw); go_simp; try (with_reducible rfl))
        simp only [List.set_cons_zero, List.set_cons_succ]
        refine take_put (i := 12) (oi := _) (v := ?_) 32 rfl rfl (by kernel_rfl) (by kernel_rfl) (by kernel_rfl) (fun _ _ _ h => h) (Or.inl ⟨by rfl, ?hy12⟩) (by assumption) ?_
        case hy12 => ((intro W hSw); (try dsimp only at hSw); go_simp; try (with_reducible rfl))
        simp only [List.set_cons_zero, List.set_cons_succ]
        refine take_put (i := 13) (oi := _) (v := ?_) 33 rfl rfl (by kernel_rfl) (by kernel_rfl) (by kernel_rfl) (fun _ _ _ h => h) (Or.inl ⟨by rfl, ?hy13⟩) (by assumption) ?_
        case hy13 => ((intro W hSw); (try dsimp only at hSw); go_simp; try (with_reducible rfl))
        simp only [List.set_cons_zero, List.set_cons_succ]
        refine take_put (i := 14) (oi := _) (v := ?_) 34 rfl rfl (by kernel_rfl) (by kernel_rfl) (by kernel_rfl) (fun _ _ _ h => h) (Or.inl ⟨by rfl, ?hy14⟩) (by assumption) ?_
        case hy14 => ((intro W hSw); (try dsimp only at hSw); go_simp; try (with_reducible rfl))
        simp only [List.set_cons_zero, List.set_cons_succ]
        refine take_put (i := 18) (oi := _) (v := ?_) 38 rfl rfl (by kernel_rfl) (by kernel_rfl) (by kernel_rfl) (fun _ _ _ h => h) (Or.inl ⟨by rfl, ?hy18⟩) (by assumption) ?_
        case hy18 => ((intro W hSw); (try dsimp only at hSw); go_simp; try (with_reducible rfl))
        simp only [List.set_cons_zero, List.set_cons_succ]
        refine take_put (i := 19) (oi := _) (v := ?_) 39 rfl rfl (by kernel_rfl) (by kernel_rfl) (by kernel_rfl) (fun _ _ _ h => h) (Or.inl ⟨by rfl, ?hy19⟩) (by assumption) ?_
        case hy19 => ((intro W hSw); (try dsimp only at hSw); go_simp; try (with_reducible rfl))
        simp only [List.set_cons_zero, List.set_cons_succ]
        refine take_put (i := 20) (oi := _) (v := ?_) 40 rfl rfl (by kernel_rfl) (by kernel_rfl) (by kernel_rfl) (fun _ _ _ h => h) (Or.inl ⟨by rfl, ?hy20⟩) (by assumption) ?_
        case hy20 => ((intro W hSw); (try dsimp only at hSw); go_simp; try (with_reducible rfl))
        simp only [List.set_cons_zero, List.set_cons_succ]
        refine take_put (i := 21) (oi := _) (v := ?_) 41 rfl rfl (by kernel_rfl) (by kernel_rfl) (by kernel_rfl) (fun _ _ _ h => h) (Or.inl ⟨by rfl, ?hy21⟩) (by assumption) ?_
        case hy21 => ((intro W hSw); (try dsimp only at hSw); go_simp; try (with_reducible rfl))
        simp only [List.set_cons_zero, List.set_cons_succ]
        refine take_put (i := 22) (oi := _) (v := ?_) 42 rfl rfl (by kernel_rfl) (by kernel_rfl) (by kernel_rfl) (fun _ _ _ h => h) (Or.inl ⟨by rfl, ?hy22⟩) (by assumption) ?_
        case hy22 => ((intro W hSw); (try dsimp only at hSw); go_simp; try (with_reducible rfl))
        simp only [List.set_cons_zero, List.set_cons_succ]
        refine take_put (i := 23) (oi := _) (v := ?_) 43 rfl rfl (by kernel_rfl) (by kernel_rfl) (by kernel_rfl) (fun _ _ _ h => h) (Or.inl ⟨by rfl, ?hy23⟩) (by assumption) ?_
        case hy23 => ((intro W hSw); (try dsimp only at hSw); go_simp; try (with_reducible rfl))
        simp only [List.set_cons_zero, List.set_cons_succ]
        refine wpAnyH_ready (rs := [8]) (by kernel_rfl) (by simp) ?_
        refine AllReadyH.cons (o := _) rfl (fun K hK => ?_) AllReadyH.nil
        go_simp
        refine hK.out _ _ (HS.out _ (HB0.out.alloc HB0.out.size _)) (fun hHeld => ?_)
        clear hK K
        try simp only [Act.put, List.setIfInBounds_toArray, List.set_cons_zero, List.set_cons_succ]
        refine take_put (i := 15) (oi := _) (v := ?_) 35 rfl rfl (by kernel_rfl) (by kernel_rfl) (by kernel_rfl) (fun _ _ _ h => h) (Or.inl ⟨by rfl, ?hy15⟩) (by assumption) ?_
        case hy15 => ((intro W hSw); (try dsimp only at hSw); go_simp; try (with_reducible rfl))
        simp only [List.set_cons_zero, List.set_cons_succ]
        refine wpAnyH_ready (rs := [16]) (by kernel_rfl) (by simp) ?_
        refine AllReadyH.cons (o := _) rfl (fun K hK => ?_) AllReadyH.nil
        go_simp
        refine hK.out _ _ (HS.out _ (HB0.out.alloc HB0.out.size _)) (fun hHeld => ?_)
        clear hK K
        try simp only [Act.put, List.setIfInBounds_toArray, List.set_cons_zero, List.set_cons_succ]
        refine take_put (i := 17) (oi := _) (v := ?_) 37 rfl rfl (by kernel_rfl) (by kernel_rfl) (by kernel_rfl) (fun _ _ _ h => h) (Or.inl ⟨by rfl, ?hy17⟩) (by assumption) ?_
        case hy17 => ((intro W hSw); (try dsimp only at hSw); go_simp; try (with_reducible rfl))
        simp only [List.set_cons_zero, List.set_cons_succ]
        refine take_put (i := 24) (oi := _) (v := ?_) 44 rfl rfl (by kernel_rfl) (by kernel_rfl) (by kernel_rfl) (fun _ _ _ h => h) (Or.inl ⟨by rfl, ?hy24⟩) (by assumption) ?_
        case hy24 => ((intro W hSw); (try dsimp only at hSw); go_simp; try (with_reducible rfl))
        simp only [List.set_cons_zero, List.set_cons_succ]
        refine take_put (i := 25) (oi := _) (v := ?_) 3 rfl rfl (by kernel_rfl) (by kernel_rfl) (by kernel_rfl) (fun _ _ _ h => h) (Or.inl ⟨by rfl, ?hy25⟩) (by assumption) ?_
        case hy25 => ((intro W hSw); (try dsimp only at hSw); go_simp; try (with_reducible rfl))
        simp only [List.set_cons_zero, List.set_cons_succ]
        refine wpAnyH_done (by kernel_rfl) ?_ _
        refine NoPanic.normal ?_
        go_wp2_with (fail)
        refine ⟨⟨j + 1, _, by go_num, by rfl, HLT.out, HNX.out, (HB0.out.alloc HB0.out.size _)⟩, by simp [intOf]; omega⟩
    · have k1 : decide ((j : Int) < qs.length) = false := decide_eq_false (by omega)
      have k2 : decide (j < qs.length) = false := decide_eq_false hlt
      have e : j = qs.length := by omega
      have HF : Hid (SoFar n qs qs.length b) := Lib.hid (e ▸ hsf)
      clear e hl hj hlt hsf hbw
      go_wp2_with (fail)
      exact HQ.out _ _ _ _ _ _ _ _ _ _ _ _ _ _ _ _ _ _ _ _ _ _ _ _ _ _ _ _ _ _ _ _ _ _ _ _ _ _ _ _ _ HF HBW
theorem word_size {s : ByteArray} (h : wordB s.toList = true) : s.size ≤ 24 := by
  unfold wordB at h
  simp only [Bool.and_eq_true, decide_eq_true_eq] at h
  rw [← bl_size]
  exact h.1.2
theorem partEnd {n : ByteArray} {qs : List Qu} {b : ByteArray} (h : SoFar n qs qs.length b) : b.toList ++ (if qs.isEmpty then [] else [125]) = textB ⟨n, qs⟩ := by
  unfold SoFar at h
  rw [List.take_of_length_le (Nat.le_refl _)] at h
  rw [text_part, h, List.append_assoc]
set_option maxRecDepth 100000 in
set_option maxHeartbeats 4000000 in
theorem refPrint0_any (n : ByteArray) (v : Value) (qs : List Qu) (w : World) (h : RsQu w v qs) (hn : n.size ≤ 24 ∧ qs.length ≤ 8 ∧ ∀ q ∈ qs, q.n.size ≤ 24 ∧ q.v.size ≤ 24) (hg : ∀ q ∈ qs, q.g = 0) :
    Calls Try.prog 20 #[.agg #[.string n, v]] w fun e w' => ∃ b : ByteArray, e = .returned (.string b) ∧ b.toList = textB ⟨n, qs⟩ ∧ Below w.heap.size w w' := by
  obtain ⟨A, c, rfl, _⟩ := h.form
  obtain ⟨W0, hW0⟩ : ∃ W : World, W = w.alloc (.cells #[.string n, .slice A qs.length c] 28) := ⟨_, rfl⟩
  have D0 : Hid (Below w.heap.size w W0) := Lib.hid (by rw [hW0]; exact (Below.refl _ _).alloc (Nat.le_refl _) _)
  have X1 : Hid (Blk W0 w.heap.size 28 [.string n, .slice A qs.length c]) := Lib.hid (by rw [hW0]; exact Blk.made w _ _)
  have R1 := Lib.hid (h.below D0.out)
  have p0 : W0.cell? ⟨w.heap.size, 0, none⟩ = some (.string n) := by rw [X1.out.cell]; rfl
  have HX : Hid (W0 = w.alloc (.cells #[.string n, .slice A qs.length c] 28)) := Lib.hid hW0
  have HN := Lib.hid hn
  have HG := Lib.hid hg
  clear h hW0 hn hg
  go_enter Try.func20, Try.ntmps20
  go_upto_region 1 with (fail)
  rw [← HX.out]
  clear HX
  go_wp2_with (fail)
  refine lpr_loop _ _ _ _ _ _ _ _ _ _ _ _ _ _ _ _ _ _ _ _ _ _ _ _ _ _ _ _ _ _ _ _ _ _ _ _ _ _ _ _ _ _ _ _ _ _ _ _ _ A c w.heap.size n qs W0 X1 R1 HN HG (Lib.hid ?_)
  intro u7 u8 u9 u10 u11 u12 u13 u14 u15 u16 u17 u18 u19 u20 u21 u22 u23 u24 u25 u26 u27 u28 u29 u30 u31 u32 u33 u34 u35 u36 u37 u38 u39 u40 u41 u42 u43 u44 y b w1 HSF HB
  have p1 : w1.cell? ⟨w.heap.size, 1, none⟩ = some (.slice A qs.length c) := by rw [HB.out.cell (p := ⟨w.heap.size, 1, none⟩) X1.out.lt, X1.out.cell]; rfl
  have B1 : Hid (Below w.heap.size w w1) := Lib.hid (D0.out.trans (HB.out.mono D0.out.size))
  have hbs := HSF.out.size HN.out.1 HN.out.2.2 HN.out.2.1
  have l8 := HN.out.2.1
  by_cases h0 : 0 < qs.length
  · have k1 : decide ((0 : Int) < (qs.length : Int)) = true := decide_eq_true (by omega)
    have k0 : decide (0 < qs.length) = true := decide_eq_true h0
    have kI : (0 : Int) < (qs.length : Int) := by omega
    have l1 : ¬ 9223372036854775807 < b.size + 1 := by omega
    have HE : Hid ((b ++ (⟨#[125]⟩ : ByteArray)).toList = textB ⟨n, qs⟩) := Lib.hid (by
      rw [← partEnd HSF.out, bl_append]
      rcases qs with _ | ⟨q, r⟩
      · simp at h0
      · simp only [List.isEmpty_cons, Bool.false_eq_true, if_false]
        congr 1
        rw [ByteArray.toList_eq])
    obtain ⟨b2, hb2⟩ : ∃ b2, b2 = b ++ (⟨#[125]⟩ : ByteArray) := ⟨_, rfl⟩
    rw [← hb2] at HE
    have E2 := hb2.symm
    clear hb2 hbs l8
    go_wp2_with (fail)
    go_ret
    exact ⟨b2, rfl, HE.out, B1.out⟩
  · have k1 : decide ((0 : Int) < (qs.length : Int)) = false := decide_eq_false (by omega)
    have k0 : decide (0 < qs.length) = false := decide_eq_false h0
    have HE : Hid (b.toList = textB ⟨n, qs⟩) := Lib.hid (by
      rw [← partEnd HSF.out]
      rcases qs with _ | ⟨q, r⟩
      · simp
      · simp at h0)
    clear hbs l8 h0
    go_wp2_with (fail)
    go_ret
    exact ⟨b, rfl, HE.out, B1.out⟩
end Go.Proofs.Ytckgpocfcanokaa
