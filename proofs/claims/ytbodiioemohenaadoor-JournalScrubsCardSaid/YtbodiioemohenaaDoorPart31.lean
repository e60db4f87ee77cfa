/- Part 31 of the words that the laws share: DsM, DsB, DsD. No condition of its own: each theorem says its own. -/
import Derived.Test.YtbodiioemohenaaDoorPart30

/- One sector meets its fate, reckoned; sorted keys are the open places. No program in sight. Condition: places rise. -/
namespace Go.Proofs.YtbodiioemohenaaDoor
open Go.RowKit

theorem met_step {L : List Pl} {fs : List UInt8} {i : Nat} {x : Int} {f : Int → Option Value} {v : Value} (hL : L.Pairwise (fun p q => p.plc < q.plc)) (hO : OpnOk L) (hx : (openK L)[i]? = some x) (hf : ∀ k, (f k).getD (arrV z128) = arrV (metB L fs i k)) (hv : (wrF L x).getD (arrV z128) = v) :
    (∀ k, (metA f x v (fate fs i) k).getD (arrV z128) = arrV (metB L fs (i + 1) k)) ∧ metC (metT L fs i) x (fate fs i) = metT L fs (i + 1) := by
  obtain ⟨p, hp, ho, hb⟩ := (openK_at L hL i x).1 hx
  obtain ⟨h1, h2⟩ := boot_open hL hO fs hp ho
  obtain ⟨h3, h4⟩ := met_here hL fs hx
  rw [hb] at h1 h2
  have hlt : fate fs i < 3 := by
    unfold fate
    split
    · decide
    · exact Nat.mod_lt _ (by decide)
  have hw : v = arrV p.now := by
    rw [← hv]
    unfold wrF
    rw [hp]
    show (if p.opn then some (arrV p.now) else none : Option Value).getD _ = _
    rw [if_pos ho]
    rfl
  have hfx := hf x
  rw [h3] at hfx
  refine ⟨fun k => ?_, ?_⟩
  · rw [(met_next hL fs hx k).1]
    by_cases hk : k = x
    · rw [if_pos hk, hk, h1]
      unfold metA
      generalize fate fs i = φ at hlt
      obtain rfl | rfl | rfl : φ = 0 ∨ φ = 1 ∨ φ = 2 := by omega
      · exact hfx
      · show (updF f x (some v) x).getD _ = arrV p.now
        unfold updF
        rw [if_pos rfl, hw]
        rfl
      · show (updF f x none x).getD _ = arrV z128
        unfold updF
        rw [if_pos rfl]
        rfl
    · rw [if_neg hk, ← hf k]
      unfold metA
      split
      · unfold updF
        rw [if_neg hk]
      · split
        · unfold updF
          rw [if_neg hk]
        · rfl
  · funext k
    rw [(met_next hL fs hx k).2]
    by_cases hk : k = x
    · rw [if_pos hk, hk, h2]
      unfold metC
      generalize fate fs i = φ at hlt
      obtain rfl | rfl | rfl : φ = 0 ∨ φ = 1 ∨ φ = 2 := by omega
      · exact h4
      · show updF _ x none x = none
        unfold updF
        rw [if_pos rfl]
      · show updF _ x (some unitV) x = some unitV
        unfold updF
        rw [if_pos rfl]
    · rw [if_neg hk]
      unfold metC
      split
      · unfold updF
        rw [if_neg hk]
      · split
        · unfold updF
          rw [if_neg hk]
        · rfl
theorem sorted_ext {l m : List Int} (hl : l.Pairwise (· < ·)) (hm : m.Pairwise (· < ·)) (h : ∀ k, k ∈ l ↔ k ∈ m) : l = m := by
  refine List.Perm.eq_of_pairwise (le := fun a b => a ≤ b) (fun a b _ _ h1 h2 => by omega) (hl.imp fun h => by omega) (hm.imp fun h => by omega) ?_
  exact (List.perm_ext_iff_of_nodup (hl.imp fun h => by omega) (hm.imp fun h => by omega)).2 h
theorem keys_open {S : DS} (h : DOk S) {ks : List Int} (hs : ks.Pairwise (· < ·)) (hm : ∀ k, k ∈ ks ↔ (wrF S.L k).isSome = true) : ks = openK S.L :=
  sorted_ext hs (openK_rise h.rise) fun k => (hm k).trans (openK_mem h.rise k).symm
end Go.Proofs.YtbodiioemohenaaDoor

/- A disk's Sync: its loop over the written sectors. No condition of its own. -/
namespace Go.Proofs.YtbodiioemohenaaDoor
open Go.RowKit

def SylRel (a b c r : Nat) (f g h : Int → Option Value) (w W : World) : Prop := ∃ left cnt f' h', RngI W b r g left cnt ∧ MapI W a f' ∧ MapI W c h' ∧ (∀ x, f' x = if (g x).isSome && !left x then g x else f x) ∧ (∀ x, h' x = if (g x).isSome && !left x then none else h x) ∧ Chg (fun j => j = a ∨ j = c ∨ j = r) w W
/-- All written sectors are the safe ones. -/
def SylEnd (a b c r : Nat) (f g h : Int → Option Value) (w W : World) : Prop := MapI W b g ∧ MapI W a (fun x => if (g x).isSome then g x else f x) ∧ MapI W c (fun x => if (g x).isSome then none else h x) ∧ Chg (fun j => j = a ∨ j = c ∨ j = r) w W
noncomputable def body_syl : Code := (((Tryd.f26.body.map loopsOf).getD [])[0]?).getD .skip
set_option maxRecDepth 100000 in
set_option maxHeartbeats 2000000 in
theorem syl_loop (c1 c2 c3 c4 c5 c6 c7 c8 c9 c10 c11 c12 c13 c14 c15 c17 c18 c19 c20 c21 c22 c23 c24 c25 c26 c27 : Value) (X a b c r : Nat) (f g h : Int → Option Value) (w : World) (he : Hid (SylRel a b c r f g h w w)) (ht : Hid (Tri w X a b c)) (hr : Hid (r ≠ X ∧ r ≠ a ∧ r ≠ c)) {Q : Exit → Act → World → Prop}
    (HQ : Hid (∀ (u4 u17 u18 u19 u20 u21 u22 u23 : Value) (W : World), Hid (SylEnd a b c r f g h w W) → Q (.exit 0) ⟨List.toArray ((.pointer (some ⟨X, 0, none⟩)) :: c1 :: c2 :: c3 :: u4 :: c5 :: c6 :: c7 :: c8 :: c9 :: c10 :: c11 :: c12 :: c13 :: c14 :: c15 :: (.pointer (some ⟨r, 0, none⟩)) :: u17 :: u18 :: u19 :: u20 :: u21 :: u22 :: u23 :: c24 :: c25 :: c26 :: c27 :: []), []⟩ W)) :
    (Code.loop body_syl).wp Tryd.prog Q ⟨List.toArray ((.pointer (some ⟨X, 0, none⟩)) :: c1 :: c2 :: c3 :: c4 :: c5 :: c6 :: c7 :: c8 :: c9 :: c10 :: c11 :: c12 :: c13 :: c14 :: c15 :: (.pointer (some ⟨r, 0, none⟩)) :: c17 :: c18 :: c19 :: c20 :: c21 :: c22 :: c23 :: c24 :: c25 :: c26 :: c27 :: []), []⟩ w := by
  unfold body_syl
  conv => arg 2; arg 1; whnf
  go_loopw [4] (fun v wx => SylRel a b c r f g h w wx) (fun _ wx => wx.rangeLeft b r)
  case atStart => exact he.out
  case round =>
    obtain ⟨left, cnt, f', h', hrg, hma, hmc, hf', hh', hch⟩ := hrel
    have HR := Lib.hid hrg
    have HA := Lib.hid hma
    have HC := Lib.hid hmc
    have HF := Lib.hid hf'
    have HH := Lib.hid hh'
    have HX := Lib.hid hch
    clear hrg hma hmc hf' hh' hch
    go_wp2_with (at_next
                 refine wpList_nextI rfl _ rfl rfl HR.out ?_ ?_)
    · intro hd
      have hl : ∀ x, left x = false := fun x => by
        cases hx : left x with
        | false => rfl
        | true =>
          have h1 := HR.out.has x hx
          obtain ⟨v, hv⟩ := Option.isSome_iff_exists.1 h1
          have h2 := HR.out.low x v hv
          rw [hd x h2.1 h2.2] at hx
          cases hx
      have e1 : f' = fun x => if (g x).isSome then g x else f x := by
        funext x
        rw [HF.out x, hl x]
        simp
      have e2 : h' = fun x => if (g x).isSome then none else h x := by
        funext x
        rw [HH.out x, hl x]
        simp
      have HE : Hid (SylEnd a b c r f g h w wr) := Lib.hid ⟨HR.out.map, e1 ▸ HA.out, e2 ▸ HC.out, HX.out⟩
      clear hd hl e1 e2
      go_wp2_with (fail)
      exact HQ.out _ _ _ _ _ _ _ _ _ HE
    · intro x v w1 cnt1 hx0 hx1 hl hv hrg1 hlt hc1 hs1 hen
      have hx : 0 ≤ x ∧ x < 1024 := ⟨by omega, by omega⟩
      have T1 := Lib.hid ((ht.out.chg HX.out (fun e => by have := ht.out.ne; have := hr.out; omega)).chg hc1 (fun e => by have := hr.out; omega))
      have A1 := Lib.hid (HA.out.chg hc1 (fun e => by have := hr.out; omega))
      have C1 := Lib.hid (HC.out.chg hc1 (fun e => by have := hr.out; omega))
      have HV : Hid ((g x).getD (arrV z128) = v) := Lib.hid (by rw [hv]; rfl)
      have HR1 := Lib.hid hrg1
      have HC1 := Lib.hid hc1
      have HLT := Lib.hid hlt
      have HL := Lib.hid hl
      have HGX := Lib.hid hv
      have HKX := Lib.hid hx
      clear hrg1 hc1 hlt hs1 hl hv hx
      go_wp2_with (fail)
      refine (keep_any T1.out A1.out HR1.out.map C1.out x HKX.out v HV.out).mono ?_
      rintro e w2 ⟨rfl, m2, n2, c2⟩
      go_wp2_with (fail)
      have hrg2 := HR1.out.chg c2 (fun e => by have := ht.out.ne; omega) (fun e => by have := hr.out; omega)
      refine ⟨⟨_, cnt1, _, _, hrg2, m2, n2, fun y => ?_, fun y => ?_, (HX.out.trans (HC1.out.mono fun j hj => .inl (.inr (.inr hj)))).trans (c2.mono fun j hj => .inl (by omega))⟩, ?_⟩
      · show updF f' x (some v) y = if (g y).isSome && !(left y && !decide (y = x)) then g y else f y
        unfold updF
        by_cases e : y = x
        · subst e
          rw [if_pos rfl]
          simp [HGX.out]
        · rw [if_neg e, HF.out y]
          simp [e]
      · show updF h' x none y = if (g y).isSome && !(left y && !decide (y = x)) then none else h y
        unfold updF
        by_cases e : y = x
        · subst e
          rw [if_pos rfl]
          simp [HGX.out]
        · rw [if_neg e, HH.out y]
          simp [e]
      · rw [hrg2.left_eq, HR.out.left_eq]
        exact HLT.out
end Go.Proofs.YtbodiioemohenaaDoor

/- A disk's Sync. Conditions: fewer than a million changes. -/
namespace Go.Proofs.YtbodiioemohenaaDoor
open Go.RowKit

theorem Dk.synced {w w' : World} {X : Nat} {a b c : Option Nat} {S : DS} (h : Dk w X a b c S) (hb : Blk w' X 45 (dkV a b c S)) (hs : ∃ f, MapO w' a f ∧ ∀ k, (f k).getD (arrV z128) = (wrF S.L k).getD (arrV (safeB S.L k))) (hw : MapO w' b fun _ => none) (ht : MapO w' c fun k => if (wrF S.L k).isSome then none else toF S.L k) : Dk w' X a b c { S with L := S.L.map safeP } := by
  obtain ⟨f, hf1, hf2⟩ := hs
  refine ⟨hb, ⟨f, hf1, fun k => ?_⟩, ?_, ?_, h.na, h.nb, h.nc, h.same, dok_map h.ok (fun _ => rfl) fun _ hp => hp, opn_safe _, h.fuse, h.ops⟩
  · rw [hf2 k]
    exact (safeB_safe h.opn k).symm
  · show MapO w' b (wrF (S.L.map safeP))
    rw [wrF_safe]
    exact hw
  · show MapO w' c (toF (S.L.map safeP))
    rw [show toF (S.L.map safeP) = fun k => if (wrF S.L k).isSome then none else toF S.L k from funext (toF_safe h.opn)]
    exact ht
theorem getD_if (g f : Option Value) (z : Value) : (if g.isSome then g else f).getD z = g.getD (f.getD z) := by
  cases g <;> rfl
set_option maxRecDepth 100000 in
set_option maxHeartbeats 2000000 in
theorem dkSync_main {w : World} {X a b c : Nat} {S S1 : DS} (h : Dk w X (some a) (some b) (some c) S) (hd : S.dead = false) (ho : S.ops < 1000000) (hb : (if (burnS S).2 then 10 else 0 : Int) = 0) (hS1 : (burnS S).1 = S1) :
    Calls Tryd.prog 26 #[.pointer (some ⟨X, 0, none⟩)] w fun e w' => e = .returned (.int .i64 0) ∧ Dk w' X (some a) (some b) (some c) { S1 with L := S1.L.map safeP } ∧ Chg (DkF X (some a) (some b) (some c)) w w' := by
  have HC := Lib.hid (dkRefuses (d := false) (by rw [h.blk.cell, ← hd]; rfl : w.cell? ⟨X, 5, none⟩ = some (.bool false)))
  have HCH := Lib.hid (change_k (a := some a) (b := some b) (c := some c) hb hS1 h.blk h.fuse ho)
  have hfz : (S1.fuse : Int) ≤ 9223372036854775807 := by
    have h1 := h.fuse
    have h2 : (burnS S).1.fuse ≤ S.fuse := by
      unfold burnS
      split
      · split
        · exact Nat.zero_le _
        · exact Nat.sub_le _ _
      · exact Nat.le_refl _
    rw [hS1] at h2
    omega
  have hops : S1.ops ≤ 1000000 := by rw [← hS1, burnS_ops]; exact ho
  have hL1 : S1.L = S.L := by rw [← hS1]; exact burnS_L _
  have HD : Hid (∀ W, Blk W X 45 (dkV (some a) (some b) (some c) S1) → Sole w W X → Dk W X (some a) (some b) (some c) S1) := Lib.hid fun W h1 h2 => h.head h2 hL1 h1 hfz hops
  clear h hd ho hb hS1 hfz hops hL1
  go_enter Tryd.func26, Tryd.ntmps26
  go_wp2_with (fail)
  refine HC.out.mono ?_
  rintro e w1 ⟨rfl, rfl⟩
  go_wp2_with (fail)
  refine HCH.out.mono ?_
  rintro e w2 ⟨rfl, hb2, hs2⟩
  have D2 := Lib.hid (HD.out w2 hb2 hs2)
  have S2 := Lib.hid hs2
  have c1 := D2.out.tri.c1
  clear hb2 hs2
  go_upto_region 7 with (at_range
                         refine wpList_rangeI rfl _ 42 63 rfl Tryd.underlying42 rfl D2.out.wr ?_
                         intro w3 r3 b3 z3
                         have R3 := Lib.hid r3
                         have B3 := Lib.hid b3
                         clear r3 b3 z3
                         go_frame)
  obtain ⟨f, hf1, hf2⟩ := D2.out.safe
  have hf1 : MapI w2 a f := hf1
  have hlt := D2.out.lt
  have la : a < w2.heap.size := hlt a (.inr (.inl rfl))
  have lc : c < w2.heap.size := hlt c (.inr (.inr (.inr rfl)))
  have lX : X < w2.heap.size := hlt X (.inl rfl)
  have hto : MapI w2 c (toF S1.L) := D2.out.torn
  refine syl_loop _ _ _ _ _ _ _ _ _ _ _ _ _ _ _ _ _ _ _ _ _ _ _ _ _ _ X a b c w2.heap.size f (wrF S1.L) (toF S1.L) w3 (Lib.hid ?_) (Lib.hid (D2.out.tri.chg (Chg.of_below B3.out) (by omega))) (Lib.hid ⟨by omega, by omega, by omega⟩) (Lib.hid ?_)
  · obtain ⟨cnt, hr⟩ := R3.out
    exact ⟨_, cnt, f, _, hr, hf1.below B3.out la, hto.below B3.out lc, fun x => by rw [Bool.and_not_self]; rfl, fun x => by rw [Bool.and_not_self]; rfl, Chg.refl _ _⟩
  intro u4 u17 u18 u19 u20 u21 u22 u23 w4 HE
  have HF := Lib.hid hf2
  have T4 := Lib.hid ((D2.out.tri.chg (Chg.of_below B3.out) (by omega)).chg HE.out.2.2.2 (by have := D2.out.tri.ne; omega))
  have x1 := T4.out.c1
  clear c1 hf1 hf2 hlt hto
  go_wp2_with (refine wpList_clearI rfl (.tmp 27) 42 63 rfl Tryd.underlying42 rfl HE.out.1 ?_
               intro w5 m5 c5
               have M5 := Lib.hid m5
               have C5 := Lib.hid c5
               clear m5 c5)
  go_ret
  obtain ⟨h1, h2, h3, h4⟩ := HE.out
  have ne := T4.out.ne
  have K5 : Blk w5 X 45 (dkV (some a) (some b) (some c) S1) := C5.out.blk (h4.blk ((Chg.of_below B3.out).blk D2.out.blk (by omega)) (by omega)) (by show ¬ X = b; omega)
  refine ⟨rfl, D2.out.synced K5 ⟨_, h2.chg C5.out (by show ¬ a = b; omega), fun k => ?_⟩ M5.out (h3.chg C5.out (by show ¬ c = b; omega)), ?_⟩
  · rw [getD_if, HF.out k]
  · have e1 : Chg (DkF X (some a) (some b) (some c)) w1 w2 := (sole_only S2.out).mono fun j hj => .inl hj
    have e2 : Chg (DkF X (some a) (some b) (some c)) w2 w3 := chg_below B3.out
    have e3 : Chg (fun j => DkF X (some a) (some b) (some c) j ∨ w2.heap.size ≤ j) w3 w4 := h4.mono fun j hj => by
      rcases hj with rfl | rfl | rfl
      · exact .inl (.inr (.inl rfl))
      · exact .inl (.inr (.inr (.inr rfl)))
      · exact .inr (Nat.le_refl _)
    have e4 : Chg (DkF X (some a) (some b) (some c)) w4 w5 := C5.out.mono fun j hj => by
      rw [hj]
      exact .inr (.inr (.inl rfl))
    have e23 : Chg (DkF X (some a) (some b) (some c)) w2 w4 := e2.trans e3
    exact chg_join e1 (chg_join e23 e4)
theorem MapO.none {w : World} {f : Int → Option Value} (h : MapO w none f) : f = fun _ => none := funext h
set_option maxRecDepth 100000 in
set_option maxHeartbeats 2000000 in
theorem dkSync_none {w : World} {X : Nat} {S S1 : DS} (h : Dk w X none none none S) (hd : S.dead = false) (ho : S.ops < 1000000) (hb : (if (burnS S).2 then 10 else 0 : Int) = 0) (hS1 : (burnS S).1 = S1) :
    Calls Tryd.prog 26 #[.pointer (some ⟨X, 0, none⟩)] w fun e w' => e = .returned (.int .i64 0) ∧ Dk w' X none none none { S1 with L := S1.L.map safeP } ∧ Chg (DkF X none none none) w w' := by
  have HC := Lib.hid (dkRefuses (d := false) (by rw [h.blk.cell, ← hd]; rfl : w.cell? ⟨X, 5, none⟩ = some (.bool false)))
  have HCH := Lib.hid (change_k (a := none) (b := none) (c := none) hb hS1 h.blk h.fuse ho)
  have hfz : (S1.fuse : Int) ≤ 9223372036854775807 := by
    have h1 := h.fuse
    have h2 : (burnS S).1.fuse ≤ S.fuse := by
      unfold burnS
      split
      · split
        · exact Nat.zero_le _
        · exact Nat.sub_le _ _
      · exact Nat.le_refl _
    rw [hS1] at h2
    omega
  have hops : S1.ops ≤ 1000000 := by rw [← hS1, burnS_ops]; exact ho
  have hL1 : S1.L = S.L := by rw [← hS1]; exact burnS_L _
  have HD : Hid (∀ W, Blk W X 45 (dkV none none none S1) → Sole w W X → Dk W X none none none S1) := Lib.hid fun W h1 h2 => h.head h2 hL1 h1 hfz hops
  clear h hd ho hb hS1 hfz hops hL1
  go_enter Tryd.func26, Tryd.ntmps26
  go_wp2_with (fail)
  refine HC.out.mono ?_
  rintro e w1 ⟨rfl, rfl⟩
  go_wp2_with (fail)
  refine HCH.out.mono ?_
  rintro e w2 ⟨rfl, hb2, hs2⟩
  have D2 := Lib.hid (HD.out w2 hb2 hs2)
  have S2 := Lib.hid hs2
  have K2 : Blk w2 X 45 (dkV none none none S1) := hb2
  have c1 : w2.cell? ⟨X, 1, none⟩ = some (.map none) := by rw [K2.cell]; rfl
  obtain ⟨w3, hw3⟩ : ∃ w3, w3 = w2.alloc (.mapIter none 0 #[] 0) := ⟨_, rfl⟩
  have hrg := run_range_nilMap (P := Tryd.prog) w2 42 3 63 Tryd.underlying42
  have hnx : ∀ ty, (Instr.next (.pointer (some ⟨w2.heap.size, 0, none⟩)) false ty).run Tryd.prog w3 = .ok (.tuple #[.bool false]) w3 := fun ty => by rw [hw3]; exact run_next_nilMap _ ty 0 0 #[]
  have B3 := Lib.hid (hw3 ▸ ((Below.refl w2.heap.size w2).alloc (Nat.le_refl _) _) : Below w2.heap.size w2 w3)
  have lX : X < w2.heap.size := K2.lt
  have c3 : w3.cell? ⟨X, 1, none⟩ = some (.map none) := by
    rw [(K2.below B3.out lX).cell]
    rfl
  clear hb2 hs2 K2
  rw [← hw3] at hrg
  clear hw3
  go_wp2_with (fail)
  refine wp_loop_rounds 1 ?_
  rw [rounds_succ]
  go_wp2_with (refine wpList_clearO rfl (.tmp 27) 42 63 rfl Tryd.underlying42 (b := none) (f := fun _ => none) rfl (fun _ => rfl) ?_
               intro w5 m5 c5
               have C5 := Lib.hid c5
               clear m5 c5)
  go_ret
  have hw := (show MapO w2 none (wrF S1.L) from D2.out.wr).none
  have ht := (show MapO w2 none (toF S1.L) from D2.out.torn).none
  have e3 : Chg (fun _ => False) w3 w5 := C5.out.mono fun j hj => by cases hj
  have e23 : Chg (fun _ => False) w2 w5 := chg_join (chg_below B3.out) e3
  obtain ⟨f, hf1, hf2⟩ := D2.out.safe
  refine ⟨rfl, D2.out.synced (e23.blk D2.out.blk fun e => e) ⟨f, hf1, fun k => ?_⟩ (fun _ => rfl) (fun k => ?_), ?_⟩
  · rw [hw, hf2]
    rfl
  · rw [hw, ht]
    rfl
  · exact chg_join ((sole_only S2.out).mono fun j hj => .inl hj) (e23.mono fun j hj => hj.elim)
set_option maxRecDepth 100000 in
set_option maxHeartbeats 2000000 in
theorem dkSync_off {w : World} {X : Nat} {a b c : Option Nat} {S : DS} (h : Dk w X a b c S) (hd : S.dead = true) :
    Calls Tryd.prog 26 #[.pointer (some ⟨X, 0, none⟩)] w fun e w' => e = .returned (.int .i64 10) ∧ w' = w := by
  have HC := Lib.hid (dkRefuses (d := true) (by rw [h.blk.cell, ← hd]; rfl : w.cell? ⟨X, 5, none⟩ = some (.bool true)))
  clear h hd
  go_enter Tryd.func26, Tryd.ntmps26
  go_wp2_with (fail)
  refine HC.out.mono ?_
  rintro e w1 ⟨rfl, rfl⟩
  go_wp2_with (fail)
  go_ret
  exact ⟨rfl, rfl⟩
set_option maxRecDepth 100000 in
set_option maxHeartbeats 2000000 in
theorem dkSync_burnt {w : World} {X : Nat} {a b c : Option Nat} {S S1 : DS} (h : Dk w X a b c S) (hd : S.dead = false) (ho : S.ops < 1000000) (hb : (if (burnS S).2 then 10 else 0 : Int) = 10) (hS1 : (burnS S).1 = S1) :
    Calls Tryd.prog 26 #[.pointer (some ⟨X, 0, none⟩)] w fun e w' => e = .returned (.int .i64 10) ∧ Blk w' X 45 (dkV a b c S1) ∧ Sole w w' X := by
  have HC := Lib.hid (dkRefuses (d := false) (by rw [h.blk.cell, ← hd]; rfl : w.cell? ⟨X, 5, none⟩ = some (.bool false)))
  have HCH := Lib.hid (change_k (a := a) (b := b) (c := c) hb hS1 h.blk h.fuse ho)
  clear h hd ho hb hS1
  go_enter Tryd.func26, Tryd.ntmps26
  go_wp2_with (fail)
  refine HC.out.mono ?_
  rintro e w1 ⟨rfl, rfl⟩
  go_wp2_with (fail)
  refine HCH.out.mono ?_
  rintro e w2 ⟨rfl, hb2, hs2⟩
  go_wp2_with (fail)
  go_ret
  exact ⟨rfl, hb2, hs2⟩
theorem burn_fuse (S : DS) : (burnS S).1.fuse ≤ S.fuse := by
  unfold burnS
  split
  · split
    · exact Nat.zero_le _
    · exact Nat.sub_le _ _
  · exact Nat.le_refl _
theorem dkSync_any {w : World} {X : Nat} {a b c : Option Nat} {S : DS} (h : Dk w X a b c S) (ho : S.ops < 1000000) :
    Calls Tryd.prog 26 #[.pointer (some ⟨X, 0, none⟩)] w fun e w' => e = .returned (.int .i64 ((syncS S).2 : Int)) ∧ Dk w' X a b c (syncS S).1 ∧ Chg (DkF X a b c) w w' := by
  cases hd : S.dead with
  | true =>
    have E : syncS S = (S, 10) := by unfold syncS; rw [if_pos hd]
    rw [E]
    refine (dkSync_off h hd).mono ?_
    rintro e w' ⟨rfl, rfl⟩
    exact ⟨rfl, h, Chg.refl _ _⟩
  | false =>
    have hn : ¬ S.dead = true := by rw [hd]; decide
    cases hb : (burnS S).2 with
    | true =>
      have E : syncS S = ((burnS S).1, 10) := by
        unfold syncS
        rw [if_neg hn]
        dsimp only
        rw [if_pos hb]
      rw [E]
      refine (dkSync_burnt h hd ho (by rw [hb]; rfl) rfl).mono ?_
      rintro e w' ⟨rfl, h1, h2⟩
      have h3 := burn_fuse S
      have h4 := h.fuse
      have h5 : ((burnS S).1.fuse : Int) ≤ 9223372036854775807 := by omega
      exact ⟨rfl, h.head h2 (burnS_L _) h1 h5 (by rw [burnS_ops]; exact ho), (sole_only h2).mono fun j hj => .inl hj⟩
    | false =>
      have E : syncS S = ({ (burnS S).1 with L := (burnS S).1.L.map safeP }, 0) := by
        unfold syncS
        rw [if_neg hn]
        dsimp only
        rw [if_neg (by rw [hb]; decide)]
      rw [E]
      obtain ⟨h1, h2⟩ := h.same
      cases b with
      | none =>
        cases a with
        | some a => cases h1
        | none =>
          cases c with
          | some c => cases h2
          | none => exact dkSync_none h hd ho (by rw [hb]; rfl) rfl
      | some b =>
        cases a with
        | none => cases h1
        | some a =>
          cases c with
          | none => cases h2
          | some c => exact dkSync_main h hd ho (by rw [hb]; rfl) rfl
end Go.Proofs.YtbodiioemohenaaDoor
