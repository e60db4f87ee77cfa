/- Part 20 of the words that the laws share: REv, LHand. No condition of its own: each theorem says its own. -/
import Derived.Test.YtmoffodmbbkolaaDoorPart12
import Derived.Test.YtmoffodmbbkolaaDoorPart2
import Derived.Test.YtmoffodmbbkolaaDoorPart5
import Derived.OwnWalk
import Derived.StillTailTactics
import Derived.IntWalk

/- The contract of the fifth reference's even: ten digits of which none is too great, of the same number modulo 2^130 - 5. Conditions: at most 20 digits, none of them above 2^47. -/
namespace Go.Proofs.YtmoffodmbbkolaaDoor
open Go.RowKit

theorem dv_put (l : List Nat) (i y : Nat) (h : i < l.length) : dv (l.set i y) + l.getD i 0 * 8192 ^ i = dv l + y * 8192 ^ i := by
  induction l generalizing i with
  | nil => simp at h
  | cons d r ih =>
    cases i with
    | zero => simp [dv, List.getD]; omega
    | succ i =>
      have h2 := ih i (by simpa using h)
      have e : (d :: r).getD (i + 1) 0 = r.getD i 0 := rfl
      rw [e, List.set_cons_succ, dv, dv, Nat.pow_succ, ← Nat.mul_assoc, ← Nat.mul_assoc]
      omega
/-- What the carry's loop keeps. -/
def CarP (out : List Nat) (c i V : Nat) : Prop := out.length = 10 ∧ dv out + c * 8192 ^ i = V ∧ (∀ q, q < 10 → q < i → out.getD q 0 < 8192) ∧ (∀ q, q < 10 → out.getD q 0 ≤ 1125899906842624) ∧ 4096 * c ≤ 1125899906842624
theorem car_step {out : List Nat} {c i V e : Nat} (h : CarP out c i V) (hi : i < 10) (he : e = out.getD i 0) : CarP (out.set i ((e + c) % 8192)) ((e + c) / 8192) (i + 1) V := by
  obtain ⟨h1, h2, h3, h4, h5⟩ := h
  have el := h4 i hi
  rw [← he] at el
  refine ⟨by rw [List.length_set]; exact h1, ?_, fun q hq hqi => ?_, fun q hq => ?_, by omega⟩
  · have hp := dv_put out i ((e + c) % 8192) (by omega)
    rw [← he] at hp
    have hdm := Nat.div_add_mod (e + c) 8192
    obtain ⟨y, hy⟩ : ∃ y, y = (e + c) % 8192 := ⟨_, rfl⟩
    obtain ⟨z, hz⟩ : ∃ z, z = (e + c) / 8192 := ⟨_, rfl⟩
    obtain ⟨p, hpp⟩ : ∃ p, p = (8192 : Nat) ^ i := ⟨_, rfl⟩
    rw [← hy, ← hz] at hdm
    rw [← hy, ← hpp] at hp
    rw [← hpp] at h2
    rw [← hy, ← hz, Nat.pow_succ, ← hpp]
    have e1 : (8192 * z + y) * p = (e + c) * p := by rw [hdm]
    rw [Nat.add_mul, Nat.add_mul, Nat.mul_assoc] at e1
    rw [Nat.mul_comm p 8192, ← Nat.mul_assoc, Nat.mul_comm z 8192, Nat.mul_assoc]
    omega
  · by_cases e2 : i = q
    · subst e2
      rw [getD_set_self (by omega)]
      exact Nat.mod_lt _ (by decide)
    · rw [getD_set_ne e2]
      exact h3 q hq (by omega)
  · by_cases e2 : i = q
    · subst e2
      rw [getD_set_self (by omega)]
      have := Nat.mod_lt (e + c) (show 0 < 8192 by decide)
      omega
    · rw [getD_set_ne e2]
      exact h4 q hq
def CarRel (w : World) (B V : Nat) (cv v : Value) (W : World) : Prop := ∃ (i c : Nat) (out : List Nat), v = .int .i64 (i : Int) ∧ cv = .int .u64 (c : Int) ∧ i ≤ 10 ∧ CarP out c i V ∧ Blk W B 39 (out.map wq) ∧ Sole w W B
noncomputable def body_car : Code := (((Tryd.f35.body.map loopsOf).getD [])[2]?).getD .skip
set_option maxRecDepth 100000 in
set_option maxHeartbeats 2000000 in
theorem car_loop (c0 c1 c2 c4 c5 c8 c9 c10 c11 c12 c13 c14 c15 c16 c17 c18 c19 c20 c21 c22 c23 c24 c25 c26 c27 c28 c29 c30 c31 c32 c33 c34 c35 c36 c37 c38 c39 c40 c41 c42 c43 c44 c45 c46 c47 c48 c49 c50 c51 c52 c53 c54 c55 c56 c57 c58 c59 c60 c61 c62 c63 c64 c65 c66 c67 c68 c69 c70 c71 c72 c73 c74 c75 c76 c77 c78 c79 c80 c81 c82 c83 c84 c85 c86 c87 c88 c89 c90 c91 c92 : Value) (B V : Nat) (out : List Nat) (w : World) (hp : Hid (CarP out 0 0 V)) (h0 : Hid (Blk w B 39 (out.map wq))) {Q : Exit → Act → World → Prop}
    (HQ : Hid (∀ (u7 u45 u46 u47 u48 u49 u50 u51 u52 u53 u54 u55 u56 u57 u58 u59 u60 u61 u62 u63 u64 u65 u66 u67 u68 u69 u70 : Value) (c : Nat) (out : List Nat) (wx : World), Hid (CarP out c 10 V) → Hid (Blk wx B 39 (out.map wq)) → Hid (Sole w wx B) → Q (.exit 4) ⟨List.toArray (c0 :: c1 :: c2 :: (.slice (some ⟨B, 0, none⟩) 10 10) :: c4 :: c5 :: (.int .u64 (c : Int)) :: u7 :: c8 :: c9 :: c10 :: c11 :: c12 :: c13 :: c14 :: c15 :: c16 :: c17 :: c18 :: c19 :: c20 :: c21 :: c22 :: c23 :: c24 :: c25 :: c26 :: c27 :: c28 :: c29 :: c30 :: c31 :: c32 :: c33 :: c34 :: c35 :: c36 :: c37 :: c38 :: c39 :: c40 :: c41 :: c42 :: c43 :: c44 :: u45 :: u46 :: u47 :: u48 :: u49 :: u50 :: u51 :: u52 :: u53 :: u54 :: u55 :: u56 :: u57 :: u58 :: u59 :: u60 :: u61 :: u62 :: u63 :: u64 :: u65 :: u66 :: u67 :: u68 :: u69 :: u70 :: c71 :: c72 :: c73 :: c74 :: c75 :: c76 :: c77 :: c78 :: c79 :: c80 :: c81 :: c82 :: c83 :: c84 :: c85 :: c86 :: c87 :: c88 :: c89 :: c90 :: c91 :: c92 :: []), []⟩ wx)) :
    (Code.loop body_car).wp Tryd.prog Q ⟨List.toArray (c0 :: c1 :: c2 :: (.slice (some ⟨B, 0, none⟩) 10 10) :: c4 :: c5 :: (.int .u64 0) :: (.int .i64 0) :: c8 :: c9 :: c10 :: c11 :: c12 :: c13 :: c14 :: c15 :: c16 :: c17 :: c18 :: c19 :: c20 :: c21 :: c22 :: c23 :: c24 :: c25 :: c26 :: c27 :: c28 :: c29 :: c30 :: c31 :: c32 :: c33 :: c34 :: c35 :: c36 :: c37 :: c38 :: c39 :: c40 :: c41 :: c42 :: c43 :: c44 :: c45 :: c46 :: c47 :: c48 :: c49 :: c50 :: c51 :: c52 :: c53 :: c54 :: c55 :: c56 :: c57 :: c58 :: c59 :: c60 :: c61 :: c62 :: c63 :: c64 :: c65 :: c66 :: c67 :: c68 :: c69 :: c70 :: c71 :: c72 :: c73 :: c74 :: c75 :: c76 :: c77 :: c78 :: c79 :: c80 :: c81 :: c82 :: c83 :: c84 :: c85 :: c86 :: c87 :: c88 :: c89 :: c90 :: c91 :: c92 :: []), []⟩ w := by
  unfold body_car
  conv => arg 2; arg 1; whnf
  go_loopw [6, 7] (fun cv v wx => CarRel w B V cv v wx) (fun _ v _ => 10 - (intOf v).toNat)
  case atStart => exact ⟨0, 0, out, rfl, rfl, by omega, hp.out, h0.out, Sole.refl _ _⟩
  case round =>
    obtain ⟨i, c, out, rfl, rfl, hi, hcp, hblk, so⟩ := hrel
    have HP := Lib.hid hcp
    by_cases hlt : i < 10
    · have hI : (i : Int) < 10 := by omega
      obtain ⟨e, he⟩ : ∃ e, e = out.getD i 0 := ⟨_, rfl⟩
      have el : e ≤ 1125899906842624 := by rw [he]; exact hcp.2.2.2.1 i hlt
      have cl := hcp.2.2.2.2
      have HN := Lib.hid (car_step hcp hlt he)
      have ce := rq_cell hblk (i := i) (by rw [hcp.1]; exact hlt)
      rw [← he] at ce
      have f0 : wr.frozen? ⟨B, i, none⟩ = false := hblk.free _
      have HB := Lib.hid hblk
      have HL := Lib.hid so
      have eI : (e : Int) ≤ 1125899906842624 := by omega
      have cI : (c : Int) ≤ 1125899906842624 := by omega
      clear he hcp hblk so hi el cl
      go_wp2_with (fail)
      go_roundw
      case rel =>
        have h := (HB.out.set i (wq (e + c))).set i (wq ((e + c) % 8192))
        rw [List.set_set, ← List.map_set] at h
        have e1 : Value.int .u64 ((e : Int) + (c : Int)) = wq (e + c) := congrArg (Value.int .u64) (by omega)
        have e2 : Value.int .u64 (((e : Int) + (c : Int)) % 8192) = wq ((e + c) % 8192) := congrArg (Value.int .u64) (by omega)
        have e3 : Value.int .u64 (((e : Int) + (c : Int)) / 8192) = .int .u64 (((e + c) / 8192 : Nat) : Int) := congrArg (Value.int .u64) (by omega)
        rw [e1, e2, e3]
        exact ⟨i + 1, _, _, by go_num, rfl, by omega, HN.out, h, (HL.out.trans (Sole.setCell _ B i _)).trans (Sole.setCell _ B i _)⟩
      case measure => simp [intOf]; omega
    · obtain rfl : i = 10 := by omega
      have HB := Lib.hid hblk
      have HL := Lib.hid so
      clear hblk so hcp
      go_wp2_with (fail)
      exact HQ.out _ _ _ _ _ _ _ _ _ _ _ _ _ _ _ _ _ _ _ _ _ _ _ _ _ _ _ c out _ HP HB HL
/-- Are the first i digits small enough? -/
def okD (out : List Nat) (i : Nat) : Bool := (out.take i).all fun x => decide (x < 8192)
theorem okD_succ {out : List Nat} {i e : Nat} (h : i < out.length) (he : e = out.getD i 0) : okD out (i + 1) = (okD out i && decide (e < 8192)) := by
  have e2 : out[i] = e := by rw [he, List.getD, List.getElem?_eq_getElem h]; rfl
  rw [okD, List.take_succ_eq_append_getElem h, List.all_append, e2]
  simp [okD]
def DneRel (out : List Nat) (b v : Value) : Prop := ∃ i : Nat, v = .int .i64 (i : Int) ∧ i ≤ 10 ∧ b = .bool (okD out i)
noncomputable def body_dne : Code := (((Tryd.f35.body.map loopsOf).getD [])[3]?).getD .skip
set_option maxRecDepth 100000 in
set_option maxHeartbeats 2000000 in
theorem dne_loop (c0 c1 c2 c4 c6 c7 c9 c10 c11 c12 c13 c14 c15 c16 c17 c18 c19 c20 c21 c22 c23 c24 c25 c26 c27 c28 c29 c30 c31 c32 c33 c34 c35 c36 c37 c38 c39 c40 c41 c42 c43 c44 c45 c46 c47 c48 c49 c50 c51 c52 c53 c54 c55 c56 c57 c58 c59 c60 c61 c62 c63 c64 c65 c66 c67 c68 c69 c70 c71 c72 c73 c74 c75 c76 c77 c78 c79 c80 c81 c82 c83 c84 c85 c86 c87 c88 c89 c90 c91 c92 : Value) (B : Nat) (out : List Nat) (w : World) (hl : Hid (out.length = 10)) (h0 : Hid (Blk w B 39 (out.map wq))) {Q : Exit → Act → World → Prop}
    (HQ : Hid (∀ (u8 u79 u80 u81 u82 u83 u84 u85 u86 u87 u88 u89 u90 : Value), Q (.exit 6) ⟨List.toArray (c0 :: c1 :: c2 :: (.slice (some ⟨B, 0, none⟩) 10 10) :: c4 :: (.bool (okD out 10)) :: c6 :: c7 :: u8 :: c9 :: c10 :: c11 :: c12 :: c13 :: c14 :: c15 :: c16 :: c17 :: c18 :: c19 :: c20 :: c21 :: c22 :: c23 :: c24 :: c25 :: c26 :: c27 :: c28 :: c29 :: c30 :: c31 :: c32 :: c33 :: c34 :: c35 :: c36 :: c37 :: c38 :: c39 :: c40 :: c41 :: c42 :: c43 :: c44 :: c45 :: c46 :: c47 :: c48 :: c49 :: c50 :: c51 :: c52 :: c53 :: c54 :: c55 :: c56 :: c57 :: c58 :: c59 :: c60 :: c61 :: c62 :: c63 :: c64 :: c65 :: c66 :: c67 :: c68 :: c69 :: c70 :: c71 :: c72 :: c73 :: c74 :: c75 :: c76 :: c77 :: c78 :: u79 :: u80 :: u81 :: u82 :: u83 :: u84 :: u85 :: u86 :: u87 :: u88 :: u89 :: u90 :: c91 :: c92 :: []), []⟩ w)) :
    (Code.loop body_dne).wp Tryd.prog Q ⟨List.toArray (c0 :: c1 :: c2 :: (.slice (some ⟨B, 0, none⟩) 10 10) :: c4 :: (.bool true) :: c6 :: c7 :: (.int .i64 0) :: c9 :: c10 :: c11 :: c12 :: c13 :: c14 :: c15 :: c16 :: c17 :: c18 :: c19 :: c20 :: c21 :: c22 :: c23 :: c24 :: c25 :: c26 :: c27 :: c28 :: c29 :: c30 :: c31 :: c32 :: c33 :: c34 :: c35 :: c36 :: c37 :: c38 :: c39 :: c40 :: c41 :: c42 :: c43 :: c44 :: c45 :: c46 :: c47 :: c48 :: c49 :: c50 :: c51 :: c52 :: c53 :: c54 :: c55 :: c56 :: c57 :: c58 :: c59 :: c60 :: c61 :: c62 :: c63 :: c64 :: c65 :: c66 :: c67 :: c68 :: c69 :: c70 :: c71 :: c72 :: c73 :: c74 :: c75 :: c76 :: c77 :: c78 :: c79 :: c80 :: c81 :: c82 :: c83 :: c84 :: c85 :: c86 :: c87 :: c88 :: c89 :: c90 :: c91 :: c92 :: []), []⟩ w := by
  unfold body_dne
  conv => arg 2; arg 1; whnf
  go_loop [5, 8] (fun b v => DneRel out b v) (fun _ v => 10 - (intOf v).toNat)
  case atStart => exact ⟨0, rfl, by omega, rfl⟩
  case round =>
    obtain ⟨i, rfl, hi, rfl⟩ := hrel
    by_cases hlt : i < 10
    · have hI : (i : Int) < 10 := by omega
      obtain ⟨e, he⟩ : ∃ e, e = out.getD i 0 := ⟨_, rfl⟩
      have ce := rq_cell h0.out (i := i) (by rw [hl.out]; exact hlt)
      rw [← he] at ce
      have HS := Lib.hid (okD_succ (by rw [hl.out]; exact hlt) he)
      obtain ⟨b, hb⟩ : ∃ b, b = okD out i := ⟨_, rfl⟩
      rw [← hb] at HS
      rw [← hb]
      clear he hb hi
      rcases b with _ | _
      · go_wp2_with (fail)
        go_round
        case rel => exact ⟨i + 1, by go_num, by omega, by rw [HS.out]; rfl⟩
        case measure => simp [intOf]; omega
      · by_cases h8 : e < 8192
        · have h8I : (e : Int) < 8192 := by omega
          go_wp2_with (fail)
          go_round
          case rel => exact ⟨i + 1, by go_num, by omega, by rw [HS.out]; simp [h8]⟩
          case measure => simp [intOf]; omega
        · have h8I : ¬ (e : Int) < 8192 := by omega
          go_wp2_with (fail)
          go_round
          case rel => exact ⟨i + 1, by go_num, by omega, by rw [HS.out]; simp [h8]⟩
          case measure => simp [intOf]; omega
    · obtain rfl : i = 10 := by omega
      go_wp2_with (fail)
      exact HQ.out _ _ _ _ _ _ _ _ _ _ _ _ _
/-- The number that a block of digits holds. -/
def blkVal (W : World) (B : Nat) : Nat := match W.heap[B]? with
  | some (.cells cs _ _) => dv (cs.toList.map fun v => (intOf v).toNat)
  | _ => 0
theorem blkVal_of {W : World} {B : Nat} {t : TypeId} {out : List Nat} (h : Blk W B t (out.map wq)) : blkVal W B = dv out := by
  unfold blkVal
  rw [h]
  simp [wq, intOf, Function.comp_def]
def EvP (out : List Nat) (X : Nat) : Prop := out.length = 10 ∧ dv out % p130 = X ∧ ∀ q, q < 10 → out.getD q 0 ≤ 1125899906842624
def EvRel (w : World) (B X : Nat) (W : World) : Prop := ∃ out : List Nat, EvP out X ∧ Blk W B 39 (out.map wq) ∧ Sole w W B
theorem ev_next {out : List Nat} {c V X e : Nat} (h : CarP out c 10 V) (hV : V % p130 = X) (he : e = out.getD 0 0) : EvP (out.set 0 (e + 5 * c)) X ∧ (okD (out.set 0 (e + 5 * c)) 10 = false → dv (out.set 0 (e + 5 * c)) < V) := by
  obtain ⟨h1, h2, h3, h4, h5⟩ := h
  have hd := dv_set out 0 (5 * c) (by omega)
  rw [← he, Nat.pow_zero, Nat.mul_one] at hd
  rw [p130_eq] at h2
  have e0 := h3 0 (by omega) (by omega)
  rw [← he] at e0
  refine ⟨⟨by rw [List.length_set]; exact h1, ?_, fun q hq => ?_⟩, fun hb => ?_⟩
  · rw [hd, ← hV, ← h2, Nat.mul_add, Nat.mul_comm c p130, Nat.mul_comm c 5, ← Nat.add_assoc, Nat.add_right_comm, Nat.add_mul_mod_self_left]
  · by_cases e2 : 0 = q
    · subst e2
      rw [getD_set_self (by omega)]
      omega
    · rw [getD_set_ne e2]
      exact h4 q hq
  · rw [hd, ← h2]
    have hc : 0 < c := by
      rcases Nat.eq_zero_or_pos c with hc | hc
      · exfalso
        subst hc
        have : okD (out.set 0 (e + 5 * 0)) 10 = true := by
          unfold okD
          rw [List.all_eq_true]
          intro x hx
          have hx2 := List.mem_of_mem_take hx
          rw [decide_eq_true_iff]
          obtain ⟨q, hq, rfl⟩ := List.getElem_of_mem hx2
          have hq10 : q < 10 := by rw [List.length_set, h1] at hq; exact hq
          by_cases e2 : 0 = q
          · subst e2
            rw [List.getElem_set_self]
            exact e0
          · rw [List.getElem_set_ne e2]
            have := h3 q hq10 hq10
            rw [List.getD, List.getElem?_eq_getElem (by omega)] at this
            exact this
        rw [this] at hb
        cases hb
      · exact hc
    have : p130 * c > 0 := Nat.mul_pos (by decide) hc
    rw [Nat.mul_add, Nat.mul_comm c p130]
    omega
set_option maxRecDepth 100000 in
set_option maxHeartbeats 4000000 in
theorem even_any (v : Value) (ds : List Nat) (w : World) (h : Rq w v ds) (h20 : ds.length ≤ 20) (hm : ∀ x ∈ ds, x ≤ 140737488355328) :
    Calls Tryd.prog 35 #[v] w fun e w' => ∃ (B : Nat) (out : List Nat), e = .returned (.slice (some ⟨B, 0, none⟩) 10 10) ∧ w.heap.size ≤ B ∧ Blk w' B 39 (out.map wq) ∧ out.length = 10 ∧ (∀ x ∈ out, x < 8192) ∧ dv out % p130 = dv ds % p130 ∧ Below w.heap.size w w' := by
  obtain ⟨i3, q0, q1, q2, q3⟩ := info_parts info_u64
  obtain ⟨D, cd, rfl, hc1, hc2, hD, hcell⟩ := h
  have HM := Lib.hid hm
  have HC := Lib.hid hcell
  have lI : (ds.length : Int) ≤ 20 := by omega
  unfold maxLen at hc2
  clear hm hcell
  go_enter Tryd.func35, Tryd.ntmps35
  go_wp2_with (at_make
               refine wpList_make_full _ rfl _ _ _ rfl w.heap.size 39 i3 _ 1 Tryd.underlying69 q0 q1 q2 _ _ _ _ 10 rfl rfl ?_ ?_ ?_ ?_ (Nat.le_refl _) ?_
               · rfl
               · rfl
               · rw [q3]; omega
               · unfold maxLen; omega
               intro w1 own1 g1)
  have b1 : Below w.heap.size w w1 := (Below.refl _ _).grown g1 (Nat.le_refl _) (fun k h => by cases h)
  have hb := blk_of_own own1
  rw [made_one rfl] at hb
  have H0 : Hid (Blk w1 w.heap.size 39 ((List.replicate 10 0).map wq)) := Lib.hid (by rw [List.map_replicate]; exact hb)
  have HC1 : Hid (∀ i, i < ds.length → w1.cell? ⟨D, i, none⟩ = some (.int .u64 ((ds.getD i 0 : Nat) : Int))) := Lib.hid fun i hi => (b1.cell (p := ⟨D, i, none⟩) hD).trans (HC.out i hi)
  have D1 := Lib.hid b1
  have HNE : Hid (D ≠ w.heap.size) := Lib.hid (by omega)
  clear hb own1 g1 b1
  refine fld_loop _ _ _ _ _ _ _ _ _ _ _ _ _ _ _ _ _ _ _ _ _ _ _ _ _ _ _ _ _ _ _ _ _ _ _ _ _ _ _ _ _ _ _ _ _ _ _ _ _ _ _ _ _ _ _ _ _ _ _ _ _ _ _ _ _ _ _ _ _ _ _ _ _ _ _ _ _ _ _ _ _ _ _ _ _ _ _ _ _ _ D w.heap.size ds.length cd ds w1 rfl h20 HM HNE.out HC1 H0 (Lib.hid ?_)
  intro u4 u10 u11 u12 u13 u14 u15 u16 u17 u18 u19 u20 u21 u22 u23 u24 u25 u26 u27 u28 u29 u30 u31 u32 u33 u34 u35 u36 u37 u38 u39 u40 u41 u42 u43 u44 out0 w2 hp2 hb2 hs2
  obtain ⟨X, hX⟩ : ∃ X, X = dv ds % p130 := ⟨_, rfl⟩
  have HX := Lib.hid hX
  have HE2 : Hid (EvP out0 X) := Lib.hid ⟨hp2.out.1, by rw [hX, hp2.out.2.1, List.take_of_length_le (Nat.le_refl _)], fun q hq => by
    have := hp2.out.2.2 q hq
    unfold fldB at this
    split at this <;> split at this <;> omega⟩
  clear hX hp2
  go_wp2_with (fail)
  go_loopw [5] (fun _ wx => EvRel w2 w.heap.size X wx) (fun _ wx => blkVal wx w.heap.size)
  case atStart => exact ⟨out0, HE2.out, hb2.out, Sole.refl _ _⟩
  case round =>
    obtain ⟨out, hev, hblk, so⟩ := hrel
    have HV : Hid (blkVal wr w.heap.size = dv out) := Lib.hid (blkVal_of hblk)
    have HP0 : Hid (CarP out 0 0 (dv out)) := Lib.hid ⟨hev.1, by omega, fun q _ h => by omega, hev.2.2, by omega⟩
    have HB := Lib.hid hblk
    have HL := Lib.hid so
    have HE := Lib.hid hev
    clear hblk so hev
    go_wp2_with (fail)
    refine car_loop _ _ _ _ _ _ _ _ _ _ _ _ _ _ _ _ _ _ _ _ _ _ _ _ _ _ _ _ _ _ _ _ _ _ _ _ _ _ _ _ _ _ _ _ _ _ _ _ _ _ _ _ _ _ _ _ _ _ _ _ _ _ _ _ _ _ _ _ _ _ _ _ _ _ _ _ _ _ _ _ _ _ _ _ _ _ _ _ _ _ w.heap.size (dv out) out wr HP0 HB (Lib.hid ?_)
    intro u7 u45 u46 u47 u48 u49 u50 u51 u52 u53 u54 u55 u56 u57 u58 u59 u60 u61 u62 u63 u64 u65 u66 u67 u68 u69 u70 c out1 w3 hp3 hb3 hs3
    obtain ⟨e, he⟩ : ∃ e, e = out1.getD 0 0 := ⟨_, rfl⟩
    have ce := rq_cell hb3.out (i := 0) (by rw [hp3.out.1]; omega)
    rw [← he] at ce
    have f0 : w3.frozen? ⟨w.heap.size, 0, none⟩ = false := hb3.out.free _
    have el := hp3.out.2.2.2.1 0 (by omega)
    rw [← he] at el
    have cl := hp3.out.2.2.2.2
    have eI : (e : Int) ≤ 1125899906842624 := by omega
    have cI : (c : Int) ≤ 1125899906842624 := by omega
    have HN := Lib.hid (ev_next hp3.out HE.out.2.1 he)
    clear he el cl
    go_wp2_with (fail)
    have hb4 := hb3.out.set 0 (wq (e + 5 * c))
    rw [← List.map_set] at hb4
    have e1 : Value.int .u64 ((e : Int) + 5 * (c : Int)) = wq (e + 5 * c) := congrArg (Value.int .u64) (by omega)
    rw [e1]
    have HB4 := Lib.hid hb4
    clear hb4 e1
    refine dne_loop _ _ _ _ _ _ _ _ _ _ _ _ _ _ _ _ _ _ _ _ _ _ _ _ _ _ _ _ _ _ _ _ _ _ _ _ _ _ _ _ _ _ _ _ _ _ _ _ _ _ _ _ _ _ _ _ _ _ _ _ _ _ _ _ _ _ _ _ _ _ _ _ _ _ _ _ _ _ _ _ _ _ _ _ _ _ _ _ _ _ w.heap.size (out1.set 0 (e + 5 * c)) _ (Lib.hid HN.out.1.1) HB4 (Lib.hid ?_)
    intro u8 u79 u80 u81 u82 u83 u84 u85 u86 u87 u88 u89 u90
    obtain ⟨b, hb⟩ : ∃ b, b = okD (out1.set 0 (e + 5 * c)) 10 := ⟨_, rfl⟩
    have HBO := Lib.hid hb
    rw [← hb]
    clear hb ce f0
    rcases b with _ | _
    · go_wp2_with (fail)
      go_roundw
      case rel => exact ⟨_, HN.out.1, HB4.out, (HL.out.trans hs3.out).trans (Sole.setCell _ w.heap.size 0 _)⟩
      case measure =>
        rw [HV.out, blkVal_of HB4.out]
        exact HN.out.2 HBO.out.symm
    · go_wp2_with (fail)
      go_ret
      refine ⟨w.heap.size, _, rfl, Nat.le_refl _, HB4.out, HN.out.1.1, fun x hx => ?_, by rw [HN.out.1.2.1, HX.out], ((D1.out.trans hs2.out.below).trans ((HL.out.trans hs3.out).trans (Sole.setCell _ w.heap.size 0 _)).below)⟩
      have h := HBO.out.symm
      unfold okD at h
      rw [List.take_of_length_le (by rw [HN.out.1.1]; omega), List.all_eq_true] at h
      simpa using h x hx
end Go.Proofs.YtmoffodmbbkolaaDoor

/- The contract of poly's handOn: what each limb has beyond 26 bits is handed on. Conditions: five limbs, none above 2^60. -/
namespace Go.Proofs.YtmoffodmbbkolaaDoor
open Go.RowKit

theorem and26 (n : Nat) (h : n < 18446744073709551616) : bits .and .u64 (n : Int) 67108863 = ((n % 67108864 : Nat) : Int) := by
  have h1 := u64_and_nat n 67108863 h (by decide)
  rw [show n &&& 67108863 = n % 67108864 from Nat.and_two_pow_sub_one_eq_mod n 26] at h1
  exact h1
theorem sole_drew {w w' : World} {B : Nat} (h : Sole w w' B) : Sole w w'.drew B := ⟨h.below.drew, h.size, h.other⟩
def HanRel (w : World) (B V : Nat) (T : TypeId) (cv v : Value) (W : World) : Prop := ∃ (i c : Nat) (out : List Nat), v = .int .i64 (i : Int) ∧ cv = .int .u64 (c : Int) ∧ i ≤ 5 ∧ HanP out c i V ∧ Blk W B T (out.map wq) ∧ Sole w W B
noncomputable def body_han : Code := (((Tryd.f52.body.map loopsOf).getD [])[0]?).getD .skip
set_option maxRecDepth 100000 in
set_option maxHeartbeats 2000000 in
theorem han_loop (c1 c2 c4 c6 c7 c8 c9 c10 c11 c12 c13 c14 c15 c16 c17 c18 c19 c20 c21 c22 c23 c24 c25 c26 c27 c28 c29 c30 c31 c32 : Value) (B V : Nat) (T : TypeId) (out : List Nat) (w : World) (hp : Hid (HanP out 0 0 V)) (h0 : Hid (Blk w B T (out.map wq))) {Q : Exit → Act → World → Prop}
    (HQ : Hid (∀ (u4 u5 u6 u7 u8 u9 u10 u11 u12 u13 u14 u15 u16 u17 u18 u19 u20 u21 u22 u23 u24 u25 u26 u27 u28 u29 u30 u31 : Value) (c : Nat) (out : List Nat) (wx : World), Hid (HanP out c 5 V) → Hid (Blk wx B T (out.map wq)) → Hid (Sole w wx B) → Q (.exit 0) ⟨List.toArray ((.pointer (some ⟨B, 0, none⟩)) :: c1 :: c2 :: (.int .u64 (c : Int)) :: u4 :: u5 :: u6 :: u7 :: u8 :: u9 :: u10 :: u11 :: u12 :: u13 :: u14 :: u15 :: u16 :: u17 :: u18 :: u19 :: u20 :: u21 :: u22 :: u23 :: u24 :: u25 :: u26 :: u27 :: u28 :: u29 :: u30 :: u31 :: c32 :: []), []⟩ wx)) :
    (Code.loop body_han).wp Tryd.prog Q ⟨List.toArray ((.pointer (some ⟨B, 0, none⟩)) :: c1 :: c2 :: (.int .u64 0) :: c4 :: (.int .i64 0) :: c6 :: c7 :: c8 :: c9 :: c10 :: c11 :: c12 :: c13 :: c14 :: c15 :: c16 :: c17 :: c18 :: c19 :: c20 :: c21 :: c22 :: c23 :: c24 :: c25 :: c26 :: c27 :: c28 :: c29 :: c30 :: c31 :: c32 :: []), []⟩ w := by
  unfold body_han
  conv => arg 2; arg 1; whnf
  go_loopw [3, 5] (fun cv v wx => HanRel w B V T cv v wx) (fun _ v _ => 5 - (intOf v).toNat)
  case atStart => exact ⟨0, 0, out, rfl, rfl, by omega, hp.out, h0.out, Sole.refl _ _⟩
  case round =>
    obtain ⟨i, c, out, rfl, rfl, hi, hcp, hblk, so⟩ := hrel
    have HP := Lib.hid hcp
    by_cases hlt : i < 5
    · have hI : (i : Int) < 5 := by omega
      obtain ⟨e, he⟩ : ∃ e, e = out.getD i 0 := ⟨_, rfl⟩
      have el : e ≤ 1152921504606846976 := by rw [he]; exact hcp.2.2.2.1 i hlt
      have cl := hcp.2.2.2.2
      have HN := Lib.hid (han_step hcp hlt he)
      have ce := rq_cell hblk (i := i) (by rw [hcp.1]; exact hlt)
      rw [← he] at ce
      have f0 : wr.frozen? ⟨B, i, none⟩ = false := hblk.free _
      have HB := Lib.hid hblk
      have HL := Lib.hid so
      obtain ⟨g, hg⟩ : ∃ g, g = e + c := ⟨_, rfl⟩
      have gI : (e : Int) + (c : Int) = (g : Int) := by omega
      have gl : (g : Int) ≤ 1152921538966585344 := by omega
      have HA := Lib.hid (and26 g (by omega))
      have a1 : IntKind.u64.wrap (g : Int) = (g : Int) := IntWalk.u64_in _ (by clear gI; omega)
      rw [← hg] at HN
      clear hg he hcp hblk so hi el cl
      go_wp2_with (fail)
      go_still_tail 9, (by kernel_rfl)
      change wpList _ _ _ _ _ wr.drew
      go_wp2_with (fail)
      have h1 := (HB.out.set i (wq g)).drew
      obtain ⟨wb, hwb⟩ : ∃ W : World, W = (wr.setCell ⟨B, i, none⟩ (.int .u64 (g : Int))).drew := ⟨_, rfl⟩
      have HB1 : Hid (Blk wb B T ((out.set i g).map wq)) := Lib.hid (by rw [hwb, List.map_set]; exact h1)
      have HL1 : Hid (Sole w wb B) := Lib.hid (by rw [hwb]; exact sole_drew (HL.out.trans (Sole.setCell wr B i _)))
      have ce2 := rq_cell HB1.out (i := i) (by rw [List.length_set, HP.out.1]; exact hlt)
      rw [gs_self (by rw [HP.out.1]; exact hlt)] at ce2
      have f1 : wb.frozen? ⟨B, i, none⟩ = false := HB1.out.free _
      have a2 : bits .and .u64 (g : Int) 67108863 = ((g % 67108864 : Nat) : Int) := HA.out
      obtain ⟨m, hm⟩ : ∃ m, m = g % 67108864 := ⟨_, rfl⟩
      rw [← hm] at a2 HN
      rw [← hwb]
      clear h1 hwb ce f0 HB HL gI hm
      go_still_tail 8, (by kernel_rfl)
      change wpList _ _ _ _ _ wb.drew
      go_wp2_with (fail)
      clear a2 a1
      go_roundw
      case rel =>
        have h := (HB1.out.set i (wq m)).drew
        rw [← List.map_set, List.set_set] at h
        have e3 : Value.int .u64 ((g : Int) / 67108864) = .int .u64 ((g / 67108864 : Nat) : Int) := congrArg (Value.int .u64) (by omega)
        rw [e3]
        exact ⟨i + 1, _, _, by go_num, rfl, by omega, HN.out, h, sole_drew (HL1.out.trans (Sole.setCell wb B i _))⟩
      case measure => simp [intOf]; omega
    · obtain rfl : i = 5 := by omega
      have HB := Lib.hid hblk
      have HL := Lib.hid so
      clear hblk so hcp
      go_wp2_with (fail)
      exact HQ.out _ _ _ _ _ _ _ _ _ _ _ _ _ _ _ _ _ _ _ _ _ _ _ _ _ _ _ _ c out _ HP HB HL
/-- What is handed on beyond the last limb, and what is left. -/
def HanPost (w : World) (B : Nat) (T : TypeId) (V : Nat) (e : Ending) (w' : World) : Prop := ∃ (c : Nat) (out : List Nat), e = .returned (.int .u64 (c : Int)) ∧ HanP out c 5 V ∧ Blk w' B T (out.map wq) ∧ Sole w w' B
set_option maxRecDepth 100000 in
set_option maxHeartbeats 1000000 in
theorem han_any (B V : Nat) (T : TypeId) (ns : List Nat) (w : World) (hb : Blk w B T (ns.map wq)) (hp : HanP ns 0 0 V) :
    Calls Tryd.prog 52 #[.pointer (some ⟨B, 0, none⟩)] w (HanPost w B T V) := by
  have HB := Lib.hid hb
  have HP := Lib.hid hp
  clear hb hp
  go_enter Tryd.func52, Tryd.ntmps52
  go_wp2_with (fail)
  refine han_loop _ _ _ _ _ _ _ _ _ _ _ _ _ _ _ _ _ _ _ _ _ _ _ _ _ _ _ _ _ _ B V T ns w HP HB (Lib.hid ?_)
  intro u4 u5 u6 u7 u8 u9 u10 u11 u12 u13 u14 u15 u16 u17 u18 u19 u20 u21 u22 u23 u24 u25 u26 u27 u28 u29 u30 u31 c out wx hp2 hb2 hs2
  go_wp2_with (fail)
  go_ret
  exact ⟨c, out, rfl, hp2.out, hb2.out, hs2.out⟩
end Go.Proofs.YtmoffodmbbkolaaDoor
