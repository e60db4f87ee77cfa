/- Part 33 of the words that the laws share: DsH, DsI, DsJ, DiskKW, DsO. No condition of its own: each theorem says its own. -/
import Derived.Test.YtbodiioemohenaaDoorPart31
import Derived.Test.YtbodiioemohenaaDoorPart32
import Derived.Test.YtbodiioemohenaaDoorPart12
import Derived.Test.YtbodiioemohenaaDoorPart30

/- A disk's Boot: its loop over the open places. No condition of its own. -/
namespace Go.Proofs.YtbodiioemohenaaDoor
open Go.RowKit

def BolRel (a c : Nat) (L : List Pl) (fs : List UInt8) (w : World) (v : Value) (W : World) : Prop := ∃ (i : Nat) (f : Int → Option Value), v = .int .i64 (i : Int) ∧ i ≤ (openK L).length ∧ MapI W a f ∧ MapI W c (metT L fs i) ∧ (∀ k, (f k).getD (arrV z128) = arrV (metB L fs i k)) ∧ Chg (fun j => j = a ∨ j = c) w W
/-- All have met their fates. -/
def BolEnd (a c : Nat) (L : List Pl) (fs : List UInt8) (w W : World) : Prop := ∃ f : Int → Option Value, MapI W a f ∧ MapI W c (toF (bootL fs 0 L)) ∧ (∀ k, (f k).getD (arrV z128) = arrV (safeB (bootL fs 0 L) k)) ∧ Chg (fun j => j = a ∨ j = c) w W
noncomputable def body_bol : Code := (((Tryd.f12.body.map loopsOf).getD [])[0]?).getD .skip
set_option maxRecDepth 100000 in
set_option maxHeartbeats 2000000 in
theorem bol_loop (c2 c3 c4 c5 c6 c7 c8 c9 c10 c11 c12 c16 c17 c18 c19 c20 c21 c22 c23 c24 c25 c26 c27 c28 c29 c30 c31 c32 c33 c34 c35 c36 : Value) (X a b c : Nat) (L : List Pl) (fs : List UInt8) (u : Value) (Ap : Option Addr) (cp : Nat) (f : Int → Option Value) (w : World) (hL : Hid (L.Pairwise (fun p q => p.plc < q.plc) ∧ OpnOk L)) (ht : Hid (Tri w X a b c))
    (hf : Hid (MapI w a f ∧ ∀ k, (f k).getD (arrV z128) = arrV (safeB L k))) (hg : Hid (MapI w b (wrF L))) (hh : Hid (MapI w c (toF L))) (hr : Hid (∀ W, Chg (fun j => j = a ∨ j = c) w W → Rd W u fs))
    (hrow : Hid (∀ i x, (openK L)[i]? = some x → ∃ g, Ap = some ⟨g, 0, none⟩ ∧ g ≠ a ∧ g ≠ c ∧ g < w.heap.size ∧ w.cell? ⟨g, i, none⟩ = some (.int .i64 x))) (hn : Hid ((openK L).length ≤ 1024)) {Q : Exit → Act → World → Prop}
    (HQ : Hid (∀ (u4 u5 u15 u16 u17 u18 u19 u20 u21 u22 u23 u24 u25 u26 : Value) (W : World), Hid (BolEnd a c L fs w W) → Q (.exit 0) ⟨List.toArray ((.pointer (some ⟨X, 0, none⟩)) :: u :: c2 :: c3 :: u4 :: u5 :: c6 :: c7 :: c8 :: c9 :: c10 :: c11 :: c12 :: (.slice Ap (openK L).length cp) :: (.int .i64 ((openK L).length : Int)) :: u15 :: u16 :: u17 :: u18 :: u19 :: u20 :: u21 :: u22 :: u23 :: u24 :: u25 :: u26 :: c27 :: c28 :: c29 :: c30 :: c31 :: c32 :: c33 :: c34 :: c35 :: c36 :: []), []⟩ W)) :
    (Code.loop body_bol).wp Tryd.prog Q ⟨List.toArray ((.pointer (some ⟨X, 0, none⟩)) :: u :: c2 :: c3 :: c4 :: c5 :: c6 :: c7 :: c8 :: c9 :: c10 :: c11 :: c12 :: (.slice Ap (openK L).length cp) :: (.int .i64 ((openK L).length : Int)) :: (.int .i64 0) :: c16 :: c17 :: c18 :: c19 :: c20 :: c21 :: c22 :: c23 :: c24 :: c25 :: c26 :: c27 :: c28 :: c29 :: c30 :: c31 :: c32 :: c33 :: c34 :: c35 :: c36 :: []), []⟩ w := by
  unfold body_bol
  conv => arg 2; arg 1; whnf
  go_loopw [15] (fun v wx => BolRel a c L fs w v wx) (fun v _ => (openK L).length - (intOf v).toNat)
  case atStart =>
    refine ⟨0, f, rfl, Nat.zero_le _, hf.out.1, ?_, fun k => ?_, Chg.refl _ _⟩
    · rw [metT_zero]
      exact hh.out
    · rw [metB_zero]
      exact hf.out.2 k
  case round =>
    obtain ⟨i, fi, rfl, hi, hma, hmc, hfi, hch⟩ := hrel
    have HA := Lib.hid hma
    have HC := Lib.hid hmc
    have HF := Lib.hid hfi
    have HX := Lib.hid hch
    have nI : ((openK L).length : Int) ≤ 1024 := by have := hn.out; omega
    by_cases hlt : i < (openK L).length
    · have hI : (i : Int) < (openK L).length := by omega
      obtain ⟨x, hx⟩ : ∃ x, (openK L)[i]? = some x := ⟨_, List.getElem?_eq_getElem hlt⟩
      obtain ⟨g, rfl, ga, gc, gl, gcell⟩ := hrow.out i x hx
      have cA : wr.cell? ⟨g, i, none⟩ = some (.int .i64 x) := by
        rw [hch.cell (p := ⟨g, i, none⟩) gl (by show ¬ (g = a ∨ g = c); omega)]
        exact gcell
      have HFT := Lib.hid (fate_any (hr.out wr hch) i)
      obtain ⟨v, hv⟩ : ∃ v, (wrF L x).getD (arrV z128) = v := ⟨_, rfl⟩
      have hxr : 0 ≤ x ∧ x < 1024 := by
        have h1 := (openK_mem hL.out.1 x).1 (List.mem_iff_getElem?.2 ⟨i, hx⟩)
        obtain ⟨v, hv⟩ := Option.isSome_iff_exists.1 h1
        exact hg.out.low x v hv
      have hφ : fate fs i < 3 := by
        unfold fate
        split
        · decide
        · exact Nat.mod_lt _ (by decide)
      have ne := ht.out.ne
      have HM := Lib.hid (meet_any (ht.out.chg hch (by omega)) hma (hg.out.chg hch (by omega)) hmc x hxr v hv (fate fs i) hφ)
      have HST := Lib.hid (met_step hL.out.1 hL.out.2 hx hfi hv)
      have HLT := Lib.hid hlt
      obtain ⟨φ, hfφ⟩ : ∃ φ, φ = fate fs i := ⟨_, rfl⟩
      rw [← hfφ] at HFT HM HST
      clear hma hmc hfi hch hi hlt hx ga gc gl gcell hv hxr hφ ne hfφ
      go_wp2_with (fail)
      refine HFT.out.mono ?_
      rintro e w1 ⟨rfl, rfl⟩
      go_wp2_with (fail)
      refine HM.out.mono ?_
      rintro e w2 ⟨rfl, m2, n2, c2⟩
      have M2 := Lib.hid m2
      have N2 := Lib.hid n2
      have C2 := Lib.hid c2
      clear m2 n2 c2
      go_wp2_with (fail)
      have hlt := HLT.out
      obtain ⟨s1, s2⟩ := HST.out
      refine ⟨⟨i + 1, _, by go_num, by omega, M2.out, s2 ▸ N2.out, s1, chg_join HX.out C2.out⟩, by simp [intOf]; omega⟩
    · obtain rfl : i = (openK L).length := by omega
      have HE : Hid (BolEnd a c L fs w wr) := Lib.hid ⟨fi, hma, (funext fun k => (met_all hL.out.1 fs k).2 : metT L fs (openK L).length = toF (bootL fs 0 L)) ▸ hmc, fun k => by rw [hfi k, (met_all hL.out.1 fs k).1], hch⟩
      clear hma hmc hfi hch hi hlt
      go_wp2_with (fail)
      exact HQ.out _ _ _ _ _ _ _ _ _ _ _ _ _ _ _ HE
end Go.Proofs.YtbodiioemohenaaDoor

/- A disk's Boot. Condition: the fates don't lie in the disk. -/
namespace Go.Proofs.YtbodiioemohenaaDoor
open Go.RowKit

theorem row_form {w : World} {base n : Nat} {t : TypeId} {v : Value} {xs : List Value} (h : w.ownsRow base t 1 v n xs) : ∃ Ap cp, v = .slice Ap n cp ∧ ∀ i x, xs[i]? = some x → ∃ g, Ap = some ⟨g, 0, none⟩ ∧ base ≤ g ∧ g < w.heap.size ∧ w.cell? ⟨g, i, none⟩ = some x := by
  have h0 := h.1
  rcases h.2 with ⟨rfl, rfl⟩ | ⟨g, cap, cur, rfl, hb, hg, _⟩
  · refine ⟨none, 0, rfl, fun i x hx => ?_⟩
    have : xs = [] := List.eq_nil_of_length_eq_zero (by omega)
    rw [this] at hx
    cases hx
  · refine ⟨_, cap, rfl, fun i x hx => ⟨g, rfl, hb, (Array.getElem?_eq_some_iff.1 hg).1, ?_⟩⟩
    have hi := (List.getElem?_eq_some_iff.1 hx).1
    rw [h.cellAt i (by omega)]
    exact hx
theorem Dk.booted {w w' : World} {X : Nat} {a b c : Option Nat} {S : DS} (h : Dk w X a b c S) (fs : List UInt8) (hb : Blk w' X 45 (dkV a b c (bootS S fs))) (hs : ∃ f, MapO w' a f ∧ ∀ k, (f k).getD (arrV z128) = arrV (safeB (bootL fs 0 S.L) k)) (hw : MapO w' b fun _ => none) (ht : MapO w' c (toF (bootL fs 0 S.L))) : Dk w' X a b c (bootS S fs) := by
  obtain ⟨f, hf1, hf2⟩ := hs
  refine ⟨hb, ⟨f, hf1, hf2⟩, ?_, ht, h.na, h.nb, h.nc, h.same, dok_boot h.ok fs, opn_boot h.ok.rise fs, ?_, h.ops⟩
  · show MapO w' b (wrF (bootL fs 0 S.L))
    rw [wrF_boot h.ok.rise]
    exact hw
  · show ((0 : Nat) : Int) ≤ _
    decide
theorem openK_len {S : DS} (h : DOk S) : (openK S.L).length ≤ 1024 := by
  have h1 := ints_few (openK S.L) 0 (fun x hx => by
    obtain ⟨v, hv⟩ := Option.isSome_iff_exists.1 ((openK_mem h.rise x).1 hx)
    exact wrF_low h hv) (openK_rise h.rise)
  rcases h1 with h1 | h1
  · omega
  · rw [h1]
    decide
set_option maxRecDepth 100000 in
set_option maxHeartbeats 2000000 in
theorem dkBoot_main {w : World} {X a b c : Nat} {S : DS} (h : Dk w X (some a) (some b) (some c) S) (u : Value) (fs : List UInt8) (hr : Rd w u fs) (hu : 0 < fs.length → ∀ j, u.ownBlock = some j → ¬ DkF X (some a) (some b) (some c) j) :
    Calls Tryd.prog 12 #[.pointer (some ⟨X, 0, none⟩), u] w fun e w' => e = .returned (.tuple #[]) ∧ Dk w' X (some a) (some b) (some c) (bootS S fs) ∧ Chg (DkF X (some a) (some b) (some c)) w w' := by
  have H := Lib.hid h
  have HR := Lib.hid hr
  have HU := Lib.hid hu
  have c1 := h.tri.c1
  have HG : Hid (MapI w b (wrF S.L)) := Lib.hid h.wr
  clear h hr hu
  go_enter Tryd.func12, Tryd.ntmps12
  go_wp2_with (fail)
  refine (keys_any _ _).mono ?_
  rintro e w1 ⟨rfl, rfl⟩
  go_wp2_with (fail)
  refine (sorted_some HG.out).mono ?_
  rintro e w2 ⟨v, ks, rfl, hs, hm, hrow, hb⟩
  obtain rfl : ks = openK S.L := keys_open H.out.ok hs hm
  obtain ⟨Ap, cp, rfl, hcell⟩ := row_form hrow
  have B2 := Lib.hid hb
  have HCE := Lib.hid hcell
  clear hs hm hrow hb hcell c1
  go_wp2_with (fail)
  obtain ⟨f, hf1, hf2⟩ := H.out.safe
  have hf1 : MapI w a f := hf1
  have hto : MapI w c (toF S.L) := H.out.torn
  have hlt := H.out.lt
  have la : a < w.heap.size := hlt a (.inr (.inl rfl))
  have lb : b < w.heap.size := hlt b (.inr (.inr (.inl rfl)))
  have lc : c < w.heap.size := hlt c (.inr (.inr (.inr rfl)))
  have lX : X < w.heap.size := hlt X (.inl rfl)
  have T2 := Lib.hid (H.out.tri.chg (Chg.of_below B2.out) (by omega))
  refine bol_loop _ _ _ _ _ _ _ _ _ _ _ _ _ _ _ _ _ _ _ _ _ _ _ _ _ _ _ _ _ _ _ _ X a b c S.L fs u Ap cp f w2 (Lib.hid ⟨H.out.ok.rise, H.out.opn⟩) T2 (Lib.hid ⟨hf1.below B2.out la, hf2⟩) (Lib.hid (HG.out.below B2.out lb)) (Lib.hid (hto.below B2.out lc)) (Lib.hid fun W hW => chg_rd0 hW (HR.out.below B2.out) fun h0 j hj e => HU.out h0 j hj (by rcases e with rfl | rfl; exact .inr (.inl rfl); exact .inr (.inr (.inr rfl)))) (Lib.hid fun i x hx => ?_) (Lib.hid (openK_len H.out.ok)) (Lib.hid ?_)
  · obtain ⟨g, h1, h2, h3, h4⟩ := HCE.out i (.int .i64 x) (by rw [List.getElem?_map, hx]; rfl)
    exact ⟨g, h1, by omega, by omega, h3, h4⟩
  intro u4 u5 u15 u16 u17 u18 u19 u20 u21 u22 u23 u24 u25 u26 w3 HE
  clear hf1 hf2 hto hlt
  have T3 : Hid (Tri w3 X a b c) := Lib.hid (by
    obtain ⟨f, _, _, _, h4⟩ := HE.out
    exact T2.out.chg h4 (by have := T2.out.ne; omega))
  have M3 : Hid (MapI w3 b (wrF S.L)) := Lib.hid (by
    obtain ⟨f, _, _, _, h4⟩ := HE.out
    exact (HG.out.below B2.out lb).chg h4 (by have := T2.out.ne; omega))
  have K3 : Hid (Blk w3 X 45 (dkV (some a) (some b) (some c) S)) := Lib.hid (by
    obtain ⟨f, _, _, _, h4⟩ := HE.out
    exact h4.blk (H.out.blk.below B2.out lX) (by have := T2.out.ne; omega))
  have x1 := T3.out.c1
  go_wp2_with (refine wpList_clearI rfl (.tmp 30) 42 63 rfl Tryd.underlying42 rfl M3.out ?_
               intro w4 m4 c4
               have M4 := Lib.hid m4
               have C4 := Lib.hid c4
               have K4 := Lib.hid (c4.blk K3.out (by have := T2.out.ne; show ¬ X = b; omega))
               have y3 : w4.cell? ⟨X, 3, none⟩ = some (.int .i64 (S.fuse : Int)) := by rw [K4.out.cell]; rfl
               have y5 : w4.cell? ⟨X, 5, none⟩ = some (.bool S.dead) := by rw [K4.out.cell]; rfl
               have z3 := K4.out.free 3
               have z5 := K4.out.free 5
               clear m4 c4)
  go_end0
  obtain ⟨f, h1, h2, h3, h4⟩ := HE.out
  have ne := T2.out.ne
  have C5 : Chg (fun j => j = X) w4 ((w4.setCell ⟨X, 3, none⟩ (.int .i64 0)).setCell ⟨X, 5, none⟩ (.bool false)) := chg_join (Chg.setCell _ _ _ _ _ rfl) (Chg.setCell _ _ _ _ _ rfl)
  refine ⟨rfl, H.out.booted fs ((K4.out.set 3 _).set 5 _) ⟨f, (h1.chg C4.out (by show ¬ a = b; omega)).chg C5 (by show ¬ a = X; omega), h3⟩ (M4.out.chg C5 (by show ¬ b = X; omega)) ((h2.chg C4.out (by show ¬ c = b; omega)).chg C5 (by show ¬ c = X; omega)), ?_⟩
  refine chg_join (chg_below B2.out) (chg_join (h4.mono fun j hj => ?_) (chg_join (C4.out.mono fun j hj => ?_) (C5.mono fun j hj => .inl hj)))
  · rcases hj with rfl | rfl
    · exact .inr (.inl rfl)
    · exact .inr (.inr (.inr rfl))
  · rw [hj]
    exact .inr (.inr (.inl rfl))
end Go.Proofs.YtbodiioemohenaaDoor

/- A disk's Boot, nothing written as yet; Boot, whole. Condition: the fates don't lie in the disk. -/
namespace Go.Proofs.YtbodiioemohenaaDoor
open Go.RowKit

set_option maxRecDepth 100000 in
set_option maxHeartbeats 2000000 in
theorem dkBoot_none {w : World} {X : Nat} {S : DS} (h : Dk w X none none none S) (u : Value) (fs : List UInt8) :
    Calls Tryd.prog 12 #[.pointer (some ⟨X, 0, none⟩), u] w fun e w' => e = .returned (.tuple #[]) ∧ Dk w' X none none none (bootS S fs) ∧ Chg (DkF X none none none) w w' := by
  have H := Lib.hid h
  have hb0 : Blk w X 45 (dkV none none none S) := h.blk
  have c1 : w.cell? ⟨X, 1, none⟩ = some (.map none) := by rw [hb0.cell]; rfl
  have lX : X < w.heap.size := hb0.lt
  clear h hb0
  go_enter Tryd.func12, Tryd.ntmps12
  go_wp2_with (fail)
  refine (keys_any _ _).mono ?_
  rintro e w1 ⟨rfl, rfl⟩
  go_wp2_with (fail)
  refine (sorted_none w).mono ?_
  rintro e w2 ⟨v, ks, rfl, rfl, hrow, hb⟩
  obtain ⟨Ap, cp, rfl, _⟩ := row_form hrow
  have B2 := Lib.hid hb
  have K2 := Lib.hid (H.out.blk.below hb lX)
  have x1 : w2.cell? ⟨X, 1, none⟩ = some (.map none) := by rw [K2.out.cell]; rfl
  clear hrow hb c1
  go_wp2_with (fail)
  refine wp_loop_rounds 1 ?_
  rw [rounds_succ]
  go_wp2_with (refine wpList_clearO rfl (.tmp 30) 42 63 rfl Tryd.underlying42 (b := none) (f := fun _ => none) rfl (fun _ => rfl) ?_
               intro w4 m4 c4
               have C4 := Lib.hid (c4.mono fun j hj => (by cases hj) : Chg (fun _ => False) w2 w4)
               have K4 := Lib.hid (C4.out.blk K2.out fun e => e)
               have y3 : w4.cell? ⟨X, 3, none⟩ = some (.int .i64 (S.fuse : Int)) := by rw [K4.out.cell]; rfl
               have y5 : w4.cell? ⟨X, 5, none⟩ = some (.bool S.dead) := by rw [K4.out.cell]; rfl
               have z3 := K4.out.free 3
               have z5 := K4.out.free 5
               clear m4 c4)
  go_end0
  have hw := (show MapO w none (wrF S.L) from H.out.wr).none
  have ht := (show MapO w none (toF S.L) from H.out.torn).none
  have C5 : Chg (fun j => j = X) w4 ((w4.setCell ⟨X, 3, none⟩ (.int .i64 0)).setCell ⟨X, 5, none⟩ (.bool false)) := chg_join (Chg.setCell _ _ _ _ _ rfl) (Chg.setCell _ _ _ _ _ rfl)
  obtain ⟨f, hf1, hf2⟩ := H.out.safe
  refine ⟨rfl, H.out.booted fs ((K4.out.set 3 _).set 5 _) ⟨f, hf1, fun k => ?_⟩ (fun _ => rfl) (fun k => ?_), ?_⟩
  · rw [hf2, (boot_shut H.out.ok.rise fs (by rw [hw])).1]
  · rw [(boot_shut H.out.ok.rise fs (by rw [hw])).2, ht]
  · exact chg_join (chg_below B2.out) (chg_join (C4.out.mono fun j hj => hj.elim) (C5.mono fun j hj => .inl hj))
theorem dkBoot_any {w : World} {X : Nat} {a b c : Option Nat} {S : DS} (h : Dk w X a b c S) (u : Value) (fs : List UInt8) (hr : Rd w u fs) (hu : 0 < fs.length → ∀ j, u.ownBlock = some j → ¬ DkF X a b c j) :
    Calls Tryd.prog 12 #[.pointer (some ⟨X, 0, none⟩), u] w fun e w' => e = .returned (.tuple #[]) ∧ Dk w' X a b c (bootS S fs) ∧ Chg (DkF X a b c) w w' := by
  obtain ⟨h1, h2⟩ := h.same
  cases b with
  | none =>
    cases a with
    | some a => cases h1
    | none =>
      cases c with
      | some c => cases h2
      | none => exact dkBoot_none h u fs
  | some b =>
    cases a with
    | none => cases h1
    | some a =>
      cases c with
      | none => cases h2
      | some c => exact dkBoot_main h u fs hr hu
end Go.Proofs.YtbodiioemohenaaDoor

/- The contracts of the developers' disk, for a layer above. No condition of its own. -/
namespace Go.Proofs.YtbodiioemohenaaDoor
open Go.RowKit

/-- A pointer leads to a disk that reads as S. -/
def DiskIs (w : World) (p : Value) (S : DS) (F : Nat → Prop) : Prop := ∃ X a b c, p = .pointer (some ⟨X, 0, none⟩) ∧ Dk w X a b c S ∧ F = DkF X a b c
theorem left_same {w w' : World} {X : Nat} {a b c : Option Nat} {S' : DS} (h : Dk w' X a b c S') (hc : Chg (DkF X a b c) w w') : DLeft DiskIs w w' (.pointer (some ⟨X, 0, none⟩)) S' (DkF X a b c) :=
  ⟨⟨DkF X a b c, ⟨X, a, b, c, rfl, h, rfl⟩, fun _ hj => .inl hj⟩, hc⟩
noncomputable def diskw : DiskW := {
  Is := DiskIs
  other := by
    rintro w w' p S F G ⟨X, a, b, c, rfl, h, rfl⟩ hc hd
    exact ⟨X, a, b, c, rfl, h.other hc hd, rfl⟩
  lt := by
    rintro w p S F ⟨X, a, b, c, rfl, h, rfl⟩
    exact h.lt
  good := by
    rintro w p S F ⟨X, a, b, c, rfl, h, rfl⟩
    exact h.ok
  new := fun w => (dkNew_any w).mono fun _ _ ⟨h1, h2, h3⟩ => ⟨_, h1, ⟨_, ⟨_, _, _, _, rfl, h2, rfl⟩, fun k hk => by
    rcases hk with rfl | hk | hk | hk
    · exact Nat.le_refl _
    · cases hk
    · cases hk
    · cases hk⟩, h3⟩
  write := by
    rintro w p S F ⟨X, a, b, c, rfl, h, rfl⟩ k u bs _ hr _ ho hu
    refine (dkWrite_any h k u bs hr ho hu).mono ?_
    rintro e w' ⟨rfl, a', b', c', h1, h2, h3⟩
    exact ⟨rfl, ⟨DkF X a' b' c', ⟨X, a', b', c', rfl, h1, rfl⟩, h2⟩, h3⟩
  sync := by
    rintro w p S F ⟨X, a, b, c, rfl, h, rfl⟩ ho
    exact (dkSync_any h ho).mono fun _ _ ⟨h1, h2, h3⟩ => ⟨h1, left_same h2 h3⟩
  fuse := by
    rintro w p S F ⟨X, a, b, c, rfl, h, rfl⟩ n hn
    exact (dkFuse_any h n hn).mono fun _ _ ⟨h1, h2, h3⟩ => ⟨h1, left_same h2 ((sole_only h3).mono fun j hj => .inl hj)⟩
  boot := by
    rintro w p S F ⟨X, a, b, c, rfl, h, rfl⟩ u fs hr _ hu
    exact (dkBoot_any h u fs hr hu).mono fun _ _ ⟨h1, h2, h3⟩ => ⟨h1, left_same h2 h3⟩
  read := by
    rintro w p S F ⟨X, a, b, c, rfl, h, rfl⟩ k _
    exact dkRead_any h k
  dead := by
    rintro w p S F ⟨X, a, b, c, rfl, h, rfl⟩
    exact (dkDead_any h).mono fun _ _ ⟨h1, h2⟩ => ⟨h1, h2 ▸ Below.refl _ _⟩ }
end Go.Proofs.YtbodiioemohenaaDoor

/- A disk's Raw. No condition of its own. -/
namespace Go.Proofs.YtbodiioemohenaaDoor
open Go.RowKit

def rawN (L : List Pl) (i : Nat) : List UInt8 := ((List.range i).map fun k : Nat => sectB L (k : Int)).flatten
theorem rawN_next (L : List Pl) (i : Nat) : rawN L (i + 1) = rawN L i ++ sectB L (i : Int) := by
  unfold rawN
  rw [List.range_succ, List.map_append, List.flatten_append]
  simp
theorem rawS_eq (S : DS) : rawS S = rawN S.L 1024 := by
  have e : rawP S = fun k : Nat => sectB S.L (k : Int) := funext (rawP_sect S)
  unfold rawS rawN
  rw [e]
def RolRel (S : DS) (w : World) (v x : Value) (W : World) : Prop := ∃ (i : Nat), x = .int .i64 (i : Int) ∧ i ≤ 1024 ∧ W.ownsRow w.heap.size 5 1 v (i * 128) ((rawN S.L i).map bv) ∧ Below w.heap.size w W
noncomputable def body_rol : Code := (((Tryd.f17.body.map loopsOf).getD [])[0]?).getD .skip
set_option maxRecDepth 100000 in
set_option maxHeartbeats 2000000 in
theorem rol_loop (c1 c2 c4 c5 c6 c7 c8 c9 c11 c12 c13 c14 c15 c16 c17 c18 c19 c20 c21 c22 c23 : Value) (X : Nat) (a b c : Option Nat) (S : DS) (v0 : Value) (w w0 : World) (hd : Hid (∀ W, Below w.heap.size w W → Dk W X a b c S)) (h0 : Hid (w0.ownsRow w.heap.size 5 1 v0 0 [] ∧ Below w.heap.size w w0)) {Q : Exit → Act → World → Prop}
    (HQ : Hid (∀ (u4 u5 u6 u10 u11 u12 u13 u14 u15 u16 u17 u18 u19 u20 u21 u22 : Value) (v : Value) (W : World), Hid (W.ownsRow w.heap.size 5 1 v 131072 ((rawN S.L 1024).map bv) ∧ Below w.heap.size w W) → Q (.exit 0) ⟨List.toArray ((.pointer (some ⟨X, 0, none⟩)) :: c1 :: c2 :: v :: u4 :: u5 :: u6 :: c7 :: c8 :: c9 :: u10 :: u11 :: u12 :: u13 :: u14 :: u15 :: u16 :: u17 :: u18 :: u19 :: u20 :: u21 :: u22 :: c23 :: []), []⟩ W)) :
    (Code.loop body_rol).wp Tryd.prog Q ⟨List.toArray ((.pointer (some ⟨X, 0, none⟩)) :: c1 :: c2 :: v0 :: c4 :: c5 :: c6 :: c7 :: c8 :: c9 :: (.int .i64 0) :: c11 :: c12 :: c13 :: c14 :: c15 :: c16 :: c17 :: c18 :: c19 :: c20 :: c21 :: c22 :: c23 :: []), []⟩ w0 := by
  unfold body_rol
  conv => arg 2; arg 1; whnf
  go_loopw [3, 10] (fun v x wx => RolRel S w v x wx) (fun _ x _ => 1024 - (intOf x).toNat)
  case atStart => exact ⟨0, rfl, by omega, by simpa [rawN] using h0.out.1, h0.out.2⟩
  case round =>
    obtain ⟨i, rfl, hi, hown, hb⟩ := hrel
    have HW := Lib.hid hown
    have HB := Lib.hid hb
    by_cases hlt : i < 1024
    · have hI : (i : Int) < 1024 := by omega
      have hD := hd.out wr hb
      have HSC := Lib.hid (sector_any hD (i : Int) ⟨by omega, hI⟩)
      obtain ⟨bs, hbs⟩ : ∃ bs, bs = sectB S.L (i : Int) := ⟨_, rfl⟩
      have HBL : Hid (bs.length = 128) := Lib.hid (by rw [hbs]; exact sectB_len hD.ok _)
      have HNX : Hid (rawN S.L (i + 1) = rawN S.L i ++ bs) := Lib.hid (by rw [hbs]; exact rawN_next _ _)
      obtain ⟨tb, htb⟩ : ∃ tb, tb = sectW S.L (i : Int) := ⟨_, rfl⟩
      rw [← hbs, ← htb] at HSC
      have HLT := Lib.hid hlt
      have HBM : Hid ((bs.map bv).length = 128) := Lib.hid (by rw [List.length_map]; exact HBL.out)
      have HS : Hid ((Tryd.prog.info? 63).map (·.size) = some (bs.map bv).length) := Lib.hid (by rw [HBM.out]; exact size128)
      have HZ : Hid ((z128.map bv).length = 128) := Lib.hid (by rw [List.length_map]; rfl)
      obtain ⟨zz, hzz⟩ : ∃ zz, zz = z128 := ⟨_, rfl⟩
      rw [← hzz] at HZ
      have HZZ := Lib.hid hzz
      obtain ⟨i0, hi0, hz0, hz1, hz2⟩ := info_parts info_u8
      clear hown hb hi hlt hD hbs htb hzz
      go_wp2_with (fail)
      refine HSC.out.mono ?_
      rintro e w1 ⟨rfl, b1⟩
      obtain ⟨C, hC⟩ : ∃ C, w1.heap.size = C := ⟨_, rfl⟩
      have HN := Lib.hid hC
      have B1 := Lib.hid b1
      have hsl := fun W => slice128 C W
      clear hC b1
      go_wp2_with (first
        | (with_reducible refine here_alloc ?_
           refine wpList_alloc_w rfl 63 rfl (zz.map bv) (by rw [HZZ.out]; exact zeroArr) C HN.out ?_
           intro w2 k2 b2 z2
           have K2 := Lib.hid k2
           have B2 := Lib.hid (B1.out.trans (b2.mono (by have := HN.out; have := B1.out.size; omega)))
           clear k2 b2 z2)
        | (with_reducible refine here_store ?_
           refine wpList_store_blk rfl 63 _ _ rfl C 63 _ K2.out (bs.map bv) rfl rfl (by rw [HBM.out, HZ.out]) HS.out (bv_one _) ?_
           intro w3 k3 s3
           have K3 := Lib.hid k3
           have B3 := Lib.hid (B2.out.trans (s3.below.mono (by have := HN.out; have := B1.out.size; omega)))
           have O3 := Lib.hid (own_lain HW.out B3.out)
           have R3 := Lib.hid (rd_blk128 k3 HBL.out)
           have G3 := Lib.hid (HB.out.trans (B3.out.mono HB.out.size))
           clear k3 s3 B2 K2)
        | (at_builtin
           go_loud (
             refine wpList_append_rd _ rfl (.tmp 19) (.tmp 20) _ rfl w.heap.size 5 i0 _ Tryd.underlying23 hi0 hz0 hz1 hz2 rfl _ (i * 128) _ rfl O3.out _ bs rfl R3.out (by have := HBL.out; have := HLT.out; omega) G3.out.size ?_
             intro v4 w4 own4 g4
             have OW := Lib.hid own4
             have B4 : Hid (Below w.heap.size w w4) := Lib.hid (G3.out.grown g4 G3.out.size (own_ge O3.out))
             clear own4 g4
             go_frame)))
      have hlt := HLT.out
      refine ⟨⟨i + 1, by go_num, by omega, ?_, B4.out⟩, by simp [intOf]; omega⟩
      have h1 := OW.out
      rw [HBL.out, ← List.map_append, ← HNX.out, show i * 128 + 128 = (i + 1) * 128 by omega] at h1
      exact h1
    · obtain rfl : i = 1024 := by omega
      clear hown hb hi hlt
      go_wp2_with (fail)
      exact HQ.out _ _ _ _ _ _ _ _ _ _ _ _ _ _ _ _ _ _ (Lib.hid ⟨HW.out, HB.out⟩)
set_option maxRecDepth 100000 in
set_option maxHeartbeats 2000000 in
theorem dkRaw_any {w : World} {X : Nat} {a b c : Option Nat} {S : DS} (h : Dk w X a b c S) :
    Calls Tryd.prog 17 #[.pointer (some ⟨X, 0, none⟩)] w fun e w' => ∃ u, e = .returned u ∧ Rd w' u (rawS S) ∧ Below w.heap.size w w' := by
  have HD : Hid (∀ W, Below w.heap.size w W → Dk W X a b c S) := Lib.hid fun W hW => h.other (Chg.of_below hW) fun k hk e => by have := h.lt k hk; omega
  rw [rawS_eq]
  obtain ⟨i0, hi0, hz0, hz1, hz2⟩ := info_parts info_u8
  have HI : Hid (i0.bytes * 131072 ≤ 281474976710656 ∧ (131072 : Nat) ≤ maxLen) := Lib.hid ⟨by rw [hz2]; omega, by unfold maxLen; omega⟩
  obtain ⟨n, hn⟩ : ∃ n : Nat, n = 131072 := ⟨_, rfl⟩
  have HNN : Hid ((131072 : Int) = (n : Int)) := Lib.hid (by rw [hn]; rfl)
  rw [← hn] at HI
  have HN2 := Lib.hid hn
  clear h hn
  go_enter Tryd.func17, Tryd.ntmps17
  go_wp2_with (at_make
               refine wpList_make_own _ rfl _ _ 23 rfl w.heap.size 5 i0 _ 1 Tryd.underlying23 hi0 hz0 hz1 _ _ _ n rfl rfl HNN.out HI.out.1 HI.out.2 (Nat.le_refl _) ?_
               intro w1 own1 g1
               have O1 := Lib.hid own1
               have G1 := Lib.hid ((Below.refl _ w).grown g1 (Nat.le_refl _) (fun j hj => by cases hj))
               clear own1 g1)
  refine rol_loop _ _ _ _ _ _ _ _ _ _ _ _ _ _ _ _ _ _ _ _ _ X a b c S _ w w1 HD (Lib.hid ⟨O1.out, G1.out⟩) (Lib.hid ?_)
  intro u4 u5 u6 u10 u11 u12 u13 u14 u15 u16 u17 u18 u19 u20 u21 u22 v W HE
  go_wp2_with (fail)
  go_ret
  exact ⟨v, rfl, Rd.of_own HE.out.1, HE.out.2⟩
end Go.Proofs.YtbodiioemohenaaDoor
