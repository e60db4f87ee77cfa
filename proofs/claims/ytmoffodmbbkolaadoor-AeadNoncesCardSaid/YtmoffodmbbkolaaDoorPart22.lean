/- Part 22 of the words that the laws share: RLeast. No condition of its own: each theorem says its own. -/
import Derived.Test.YtmoffodmbbkolaaDoorPart2
import Derived.Test.YtmoffodmbbkolaaDoorPart5
import Derived.OwnWalk

/- The contract of the fifth reference's least: the one below 2^130 - 5. Condition: ten digits of which none is too great. -/
namespace Go.Proofs.YtmoffodmbbkolaaDoor
open Go.RowKit

/-- Are the lowest digit at least 8187, and the next ones, below place i, the greatest? -/
def topB (ds : List Nat) (i : Nat) : Bool := decide (8187 ≤ ds.getD 0 0) && ((ds.drop 1).take (i - 1)).all fun x => decide (x = 8191)
theorem topB_one (ds : List Nat) : topB ds 1 = decide (8187 ≤ ds.getD 0 0) := by simp [topB]
theorem topB_succ {ds : List Nat} {i e : Nat} (h1 : 1 ≤ i) (h : i < ds.length) (he : e = ds.getD i 0) : topB ds (i + 1) = (topB ds i && decide (e = 8191)) := by
  have e2 : (ds.drop 1)[i - 1]'(by simp; omega) = e := by
    rw [he, List.getElem_drop, List.getD, List.getElem?_eq_getElem h]
    simp [show 1 + (i - 1) = i by omega]
  rw [topB, topB, show i + 1 - 1 = (i - 1) + 1 by omega, List.take_succ_eq_append_getElem (by simp; omega), List.all_append, e2]
  simp [Bool.and_assoc]
theorem topB_yes {ds : List Nat} (hl : ds.length = 10) (hs : ∀ x ∈ ds, x < 8192) : topB ds 10 = true ↔ p130 ≤ dv ds := by
  obtain ⟨d, r, rfl⟩ : ∃ d r, ds = d :: r := by
    cases ds with
    | nil => simp at hl
    | cons d r => exact ⟨d, r, rfl⟩
  have hr9 : r.length = 9 := by simpa using hl
  have hd := hs d (by simp)
  have hr : ∀ x ∈ r, x < 8192 := fun x hx => hs x (by simp [hx])
  have h1 := dv_top d r hd hr
  have h2 := dv_max r hr
  rw [hr9] at h1 h2
  have h3 : (8192 : Nat) ^ (9 + 1) - 5 = p130 := by decide
  rw [h3] at h1
  rw [dv, h1, h2, topB]
  have e1 : (d :: r).getD 0 0 = d := rfl
  rw [e1, List.drop_one, List.tail_cons, List.take_of_length_le (by omega)]
  simp
theorem topB_val {ds : List Nat} (hl : ds.length = 10) (hs : ∀ x ∈ ds, x < 8192) (h : topB ds 10 = true) : 8187 ≤ ds.getD 0 0 ∧ dv ds % p130 = ds.getD 0 0 - 8187 := by
  have h0 := (topB_yes hl hs).1 h
  obtain ⟨d, r, rfl⟩ : ∃ d r, ds = d :: r := by
    cases ds with
    | nil => simp at hl
    | cons d r => exact ⟨d, r, rfl⟩
  have hr9 : r.length = 9 := by simpa using hl
  have hd := hs d (by simp)
  have hr : ∀ x ∈ r, x < 8192 := fun x hx => hs x (by simp [hx])
  have h1 := dv_top d r hd hr
  rw [hr9, show (8192 : Nat) ^ (9 + 1) - 5 = p130 by decide] at h1
  rw [dv] at h0
  obtain ⟨h2, h3⟩ := h1.1 h0
  have e1 : (d :: r).getD 0 0 = d := rfl
  rw [e1, dv]
  refine ⟨h2, ?_⟩
  have h4 : (8192 : Nat) ^ 9 = 166153499473114484112975882535043072 := by decide
  rw [h4] at h3
  have h5 : p130 = 1361129467683753853853498429727072845819 := rfl
  rw [Nat.mod_eq_sub_mod h0, Nat.mod_eq_of_lt (by omega)]
  omega
def LstRel (ds : List Nat) (b v : Value) : Prop := ∃ i : Nat, v = .int .i64 (i : Int) ∧ 1 ≤ i ∧ i ≤ 10 ∧ b = .bool (topB ds i)
noncomputable def body_lst : Code := (((Tryd.f36.body.map loopsOf).getD [])[0]?).getD .skip
set_option maxRecDepth 100000 in
set_option maxHeartbeats 2000000 in
theorem lst_loop (c1 c2 c5 c6 c7 c8 c9 c10 c11 c12 c13 c14 c15 c16 c17 c18 c19 c20 c21 c22 c23 c24 c25 c26 c27 c28 c29 c30 c31 c32 : Value) (D cd : Nat) (ds : List Nat) (w : World) (hl : Hid (ds.length = 10)) (hd : Hid (∀ i, i < 10 → w.cell? ⟨D, i, none⟩ = some (.int .u64 ((ds.getD i 0 : Nat) : Int)))) {Q : Exit → Act → World → Prop}
    (HQ : Hid (∀ (u4 u10 u11 u12 u13 u14 u15 u16 u17 u18 u19 u20 u21 : Value), Q (.exit 0) ⟨List.toArray ((.slice (some ⟨D, 0, none⟩) 10 cd) :: c1 :: c2 :: (.bool (topB ds 10)) :: u4 :: c5 :: c6 :: c7 :: c8 :: c9 :: u10 :: u11 :: u12 :: u13 :: u14 :: u15 :: u16 :: u17 :: u18 :: u19 :: u20 :: u21 :: c22 :: c23 :: c24 :: c25 :: c26 :: c27 :: c28 :: c29 :: c30 :: c31 :: c32 :: []), []⟩ w)) :
    (Code.loop body_lst).wp Tryd.prog Q ⟨List.toArray ((.slice (some ⟨D, 0, none⟩) 10 cd) :: c1 :: c2 :: (.bool (topB ds 1)) :: (.int .i64 1) :: c5 :: c6 :: c7 :: c8 :: c9 :: c10 :: c11 :: c12 :: c13 :: c14 :: c15 :: c16 :: c17 :: c18 :: c19 :: c20 :: c21 :: c22 :: c23 :: c24 :: c25 :: c26 :: c27 :: c28 :: c29 :: c30 :: c31 :: c32 :: []), []⟩ w := by
  unfold body_lst
  conv => arg 2; arg 1; whnf
  go_loop [3, 4] (fun b v => LstRel ds b v) (fun _ v => 10 - (intOf v).toNat)
  case atStart => exact ⟨1, rfl, by omega, by omega, rfl⟩
  case round =>
    obtain ⟨i, rfl, h1, hi, rfl⟩ := hrel
    by_cases hlt : i < 10
    · have hI : (i : Int) < 10 := by omega
      obtain ⟨e, he⟩ : ∃ e, e = ds.getD i 0 := ⟨_, rfl⟩
      have ce := hd.out i hlt
      rw [← he] at ce
      have HS := Lib.hid (topB_succ h1 (by rw [hl.out]; exact hlt) he)
      obtain ⟨b, hb⟩ : ∃ b, b = topB ds i := ⟨_, rfl⟩
      rw [← hb] at HS
      rw [← hb]
      clear he hb hi
      rcases b with _ | _
      · go_wp2_with (fail)
        go_round
        case rel => exact ⟨i + 1, by go_num, by omega, by omega, by rw [HS.out]; rfl⟩
        case measure => simp [intOf]; omega
      · by_cases h8 : e = 8191
        · have h8I : ((e : Int) == 8191) = true := by rw [beq_iff_eq]; omega
          have H8 := Lib.hid h8
          clear h8
          go_wp2_with (fail)
          go_round
          case rel => exact ⟨i + 1, by go_num, by omega, by omega, by rw [HS.out, H8.out]; rfl⟩
          case measure => simp [intOf]; omega
        · have h8I : ((e : Int) == 8191) = false := by rw [beq_eq_false_iff_ne]; omega
          have H8 := Lib.hid h8
          clear h8
          go_wp2_with (fail)
          go_round
          case rel => exact ⟨i + 1, by go_num, by omega, by omega, by rw [HS.out, decide_eq_false H8.out]; rfl⟩
          case measure => simp [intOf]; omega
    · obtain rfl : i = 10 := by omega
      go_wp2_with (fail)
      exact HQ.out _ _ _ _ _ _ _ _ _ _ _ _ _
set_option maxRecDepth 100000 in
set_option maxHeartbeats 2000000 in
theorem least_any (v : Value) (ds : List Nat) (w : World) (h : Rq w v ds) (hl : ds.length = 10) (hs : ∀ x ∈ ds, x < 8192) :
    Calls Tryd.prog 36 #[v] w fun e w' => ∃ (v' : Value) (out : List Nat), e = .returned v' ∧ Rq w' v' out ∧ out.length = 10 ∧ (∀ x ∈ out, x < 8192) ∧ dv out = dv ds % p130 ∧ Below w.heap.size w w' := by
  obtain ⟨i3, q0, q1, q2, q3⟩ := info_parts info_u64
  have HR := Lib.hid h
  obtain ⟨D, cd, rfl, hc1, hc2, hD, hcell⟩ := h
  rw [hl] at hc1 hcell
  have HC := Lib.hid hcell
  have c0 := hcell 0 (by omega)
  obtain ⟨e, he⟩ : ∃ e, e = ds.getD 0 0 := ⟨_, rfl⟩
  rw [← he] at c0
  have HE := Lib.hid he
  have HL := Lib.hid hl
  have HS := Lib.hid hs
  have HT := Lib.hid (topB_yes hl hs)
  have HLT := Lib.hid (dv_lt ds hs)
  have h10 : (10 : Int) ≤ cd := by omega
  unfold maxLen at hc2
  rw [hl] at HR ⊢
  clear hcell he hl hs
  have H1 : Hid (Value.bool (decide (8187 ≤ (e : Int))) = .bool (topB ds 1)) := Lib.hid (congrArg Value.bool (by rw [topB_one, ← HE.out, decide_eq_decide]; omega))
  go_enter Tryd.func36, Tryd.ntmps36
  go_wp2_with (fail)
  rw [H1.out]
  refine lst_loop _ _ _ _ _ _ _ _ _ _ _ _ _ _ _ _ _ _ _ _ _ _ _ _ _ _ _ _ _ _ D cd ds w HL HC (Lib.hid ?_)
  intro u4 u10 u11 u12 u13 u14 u15 u16 u17 u18 u19 u20 u21
  obtain ⟨b, hb⟩ : ∃ b, b = topB ds 10 := ⟨_, rfl⟩
  have HB := Lib.hid hb
  rw [← hb]
  clear hb H1
  rcases b with _ | _
  · go_wp2_with (fail)
    go_ret
    refine ⟨_, ds, rfl, HR.out, HL.out, HS.out, (Nat.mod_eq_of_lt ?_).symm, Below.refl _ _⟩
    rcases Nat.lt_or_ge (dv ds) p130 with h | h
    · exact h
    · have := HT.out.2 h
      rw [← HB.out] at this
      cases this
  · have hv := topB_val HL.out HS.out HB.out.symm
    rw [← HE.out] at hv
    have eI : (8187 : Int) ≤ (e : Int) := by omega
    have el : (e : Int) < 8192 := by
      have : e < 8192 := by
        have h := HL.out
        rw [HE.out, List.getD, List.getElem?_eq_getElem (by omega)]
        exact HS.out _ (List.getElem_mem _)
      omega
    have HV := Lib.hid hv
    clear hv
    go_wp2_with (at_make
                 refine wpList_make_full _ rfl _ _ _ rfl w.heap.size 39 i3 _ 1 Tryd.underlying69 q0 q1 q2 _ _ _ _ 10 rfl rfl ?_ ?_ ?_ ?_ (Nat.le_refl _) ?_
                 · rfl
                 · rfl
                 · rw [q3]; omega
                 · unfold maxLen; omega
                 intro w1 own1 g1
                 have b1 : Below w.heap.size w w1 := (Below.refl _ _).grown g1 (Nat.le_refl _) (fun k h => by cases h)
                 have hb := blk_of_own own1
                 rw [made_one rfl] at hb
                 have H0 : Hid (Blk w1 w.heap.size 39 ((List.replicate 10 0).map wq)) := Lib.hid (by rw [List.map_replicate]; exact hb)
                 have c1 : w1.cell? ⟨D, 0, none⟩ = some (.int .u64 (e : Int)) := (b1.cell (p := ⟨D, 0, none⟩) hD).trans c0
                 have f1 : w1.frozen? ⟨w.heap.size, 0, none⟩ = false := H0.out.free 0
                 have g0 : w1.cell? ⟨w.heap.size, 0, none⟩ = some (.int .u64 0) := by rw [H0.out.cell]; rfl
                 have D1 := Lib.hid b1
                 clear hb own1 g1 b1)
    go_ret
    have hb := H0.out.set 0 (wq (e - 8187))
    rw [← List.map_set] at hb
    have e1 : Value.int .u64 ((e : Int) - 8187) = wq (e - 8187) := congrArg (Value.int .u64) (by omega)
    rw [e1]
    have hlen : ((List.replicate 10 0).set 0 (e - 8187)).length = 10 := by simp
    have hr := rq_of_blk hb 10 (by rw [hlen]; omega) (by unfold maxLen; omega)
    rw [hlen] at hr
    refine ⟨_, _, rfl, hr, hlen, fun x hx => ?_, ?_, D1.out.trans (Sole.setCell _ w.heap.size 0 _).below⟩
    · rcases List.mem_or_eq_of_mem_set hx with h | h
      · rw [List.mem_replicate] at h; omega
      · omega
    · rw [HV.out.2]
      show dv ((e - 8187) :: List.replicate 9 0) = _
      rw [dv, dv_zeros]
      omega
end Go.Proofs.YtmoffodmbbkolaaDoor
