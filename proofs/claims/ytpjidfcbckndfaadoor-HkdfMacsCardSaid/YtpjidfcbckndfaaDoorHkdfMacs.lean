/- What is proved: 'HkdfMacs' (law 3) returns true whatever comes in: the code of any message by any key is the document's; to extract is that; both stay; the arguments read afterwards as before.
   Conditions: none of its own. The table of the rounds reads as the program's text lays it (the card ties it; the translation is a pruned copy of the project). -/
import Derived.Test.YtpjidfcbckndfaaDoorCards
import Derived.Test.YtpjidfcbckndfaaDoorTie
import Derived.Test.YtpjidfcbckndfaaDoorLaid
import Derived.Test.YtpjidfcbckndfaaDoorHkAwake
import Derived.Test.YtpjidfcbckndfaaDoorLent
import Derived.Test.YtpjidfcbckndfaaDoorArrAll
import Derived.Deep.RegionHeld3
import Derived.SevenTiedAt
namespace Go.Proofs.YtpjidfcbckndfaaDoor.hkdfMacs
open Go.ChangeShapes Go.WideShapes Go.ChangeAt Go.ChangeMaps Go.RowKit

/-- What the last statement leans on. -/
structure TM (w : World) (ga gb B1 B2 : Nat) (v0 v1 : Value) (x0 x1 : List UInt8) (cs : List Value) (V : World) : Prop where
  la : LentAt V ga x0
  lb : LentAt V gb x1
  b0 : Rd V v0 x0
  b1 : Rd V v1 x1
  m1 : Blk V B1 26 cs
  m2 : Blk V B2 26 cs
  salts : Salts V
  below : Below w.heap.size w V
section
variable {w : World} {ga gb B1 B2 : Nat} {v0 v1 : Value} {x0 x1 : List UInt8} {cs : List Value} {V V' : World}
theorem TM.on (h : TM w ga gb B1 B2 v0 v1 x0 x1 cs V) (hb : Below V.heap.size V V') : TM w ga gb B1 B2 v0 v1 x0 x1 cs V' :=
  ⟨h.la.below hb, h.lb.below hb, h.b0.below hb, h.b1.below hb, h.m1.below hb h.m1.lt, h.m2.below hb h.m2.lt, h.salts.below hb, h.below.trans (hb.mono h.below.size)⟩
theorem TM.drewN (h : TM w ga gb B1 B2 v0 v1 x0 x1 cs V) (n : Nat) : TM w ga gb B1 B2 v0 v1 x0 x1 cs (V.drewN n) := h.on (below_drewN (Below.refl _ _) n)
theorem TM.drew (h : TM w ga gb B1 B2 v0 v1 x0 x1 cs V) : TM w ga gb B1 B2 v0 v1 x0 x1 cs V.drew := h.on (Below.refl _ _).drew
theorem TM.alloc (h : TM w ga gb B1 B2 v0 v1 x0 x1 cs V) (o : Obj) : TM w ga gb B1 B2 v0 v1 x0 x1 cs (V.alloc o) := h.on ((Below.refl _ _).alloc (Nat.le_refl _) o)
theorem Blk.range {V : World} {B : Nat} {t : TypeId} {cs : List Value} (h : Blk V B t cs) : V.rangeAt B 0 cs := fun j v hv => by
  rw [Nat.zero_add, h.cell j]
  exact hv
end

set_option maxRecDepth 100000 in
set_option maxHeartbeats 1000000 in
theorem walk (v0 : Value) (x0 : List UInt8) (v1 : Value) (x1 : List UInt8) (w : World) (h0 : Rd w v0 x0) (h1 : Rd w v1 x1) (hk : Salts w) :
    Calls Tryd.prog 3 #[v0, v1] w fun e w' => e = .returned (.bool true) ∧ Below w.heap.size w w' := by
  obtain ⟨i0, hi, hz0, hz1, hz2⟩ := info_parts info_u8
  obtain ⟨A, c, rfl, hc1, hc2, _⟩ := h0.form
  obtain ⟨A1, c1, rfl, hd1, hd2, _⟩ := h1.form
  have HA := Lib.hid fun W hW => hkdfAwake_any W hW
  have HK := Lib.hid hk
  have R0 := Lib.hid h0
  have R1 := Lib.hid h1
  clear h0 h1 hk hc1 hc2 hd1 hd2
  by_cases hl : x0.length ≤ 200
  · have lI : (x0.length : Int) ≤ 200 := by omega
    by_cases hm : x1.length ≤ 200
    · have mI : (x1.length : Int) ≤ 200 := by omega
      have HIS : Hid ((Tryd.prog.info? 26).map (·.size) = some 32) := by show _ = _; kernel_rfl
      go_enter Tryd.func3, Tryd.ntmps3
      go_wp2_with (fail)
      refine (lent_any _ x0 _ R0.out (by omega)).mono ?_
      rintro e w1 ⟨ga, rfl, la1, hga, hb1⟩
      have LA1 := Lib.hid la1
      have D1 := Lib.hid hb1
      clear la1 hb1
      go_wp2_with (fail)
      refine (lent_any _ x1 _ (R1.out.below D1.out) (by omega)).mono ?_
      rintro e w2 ⟨gb, rfl, lb2, hgb, hb2⟩
      have LA2 := Lib.hid (LA1.out.below hb2)
      have LB2 := Lib.hid lb2
      have D2 := Lib.hid (D1.out.trans (hb2.mono D1.out.size))
      clear lb2 hb2
      go_wp2_with (fail)
      refine (mac_any _ _ x0 x1 _ (LA2.out.rd (by omega)) (LB2.out.rd (by omega)) (by omega) (by omega) (HK.out.below D2.out)).mono ?_
      rintro e w3 ⟨rfl, hb3⟩
      have LA3 := Lib.hid (LA2.out.below hb3)
      have LB3 := Lib.hid (LB2.out.below hb3)
      have D3 := Lib.hid (D2.out.trans (hb3.mono D2.out.size))
      obtain ⟨res, hres⟩ := ex_eq1 (macB x0 x1)
      have LR : Hid (res.length = 32) := by show _ = _; rw [hres, macB_length]
      have LRM : Hid ((res.map bv).length = 32) := by show _ = _; rw [List.length_map, LR.out]
      have HRES := Lib.hid hres
      rw [← hres]
      clear hb3 hres
      go_wp2_with (fail)
      refine (extract_any _ _ x0 x1 _ (LA3.out.rd (by omega)) (LB3.out.rd (by omega)) (by omega) (by omega) (HK.out.below D3.out)).mono ?_
      rintro e w4 ⟨rfl, hb4⟩
      rw [← HRES.out]
      have LA4 := Lib.hid (LA3.out.below hb4)
      have LB4 := Lib.hid (LB3.out.below hb4)
      have D4 := Lib.hid (D3.out.trans (hb4.mono D3.out.size))
      have HM1 : Hid (Blk ((w4.alloc (.cells (List.replicate 32 (Value.int .u8 0)).toArray 26)).alloc (.cells (List.replicate 32 (Value.int .u8 0)).toArray 26)) w4.heap.size 26 (List.replicate 32 (Value.int .u8 0))) := Lib.hid ((Blk.made w4 _ _).alloc _)
      have HM2 : Hid (Blk ((w4.alloc (.cells (List.replicate 32 (Value.int .u8 0)).toArray 26)).alloc (.cells (List.replicate 32 (Value.int .u8 0)).toArray 26)) (w4.heap.size + 1) 26 (List.replicate 32 (Value.int .u8 0))) := Lib.hid (by
        have h := Blk.made (w4.alloc (.cells (List.replicate 32 (Value.int .u8 0)).toArray 26)) 26 (List.replicate 32 (Value.int .u8 0))
        rw [World.size_alloc] at h
        exact h)
      have DA : Hid (Below w4.heap.size w4 ((w4.alloc (.cells (List.replicate 32 (Value.int .u8 0)).toArray 26)).alloc (.cells (List.replicate 32 (Value.int .u8 0)).toArray 26))) := Lib.hid (((Below.refl _ _).alloc (Nat.le_refl _) _).alloc (by simp) _)
      clear hb4
      go_wp2_with (first
                   | refine wpList_store_blk rfl 26 (.tmp 7) _ rfl w4.heap.size 26 _ HM1.out (res.map bv) rfl rfl (by rw [LRM.out]; rfl) (by rw [LRM.out]; exact HIS.out) (bv_one _) ?_
                     intro w5 hb5 hs5
                     have M5 := Lib.hid hb5
                     have N5 := Lib.hid (hs5.blk HM2.out (by omega))
                     have D5 := Lib.hid (DA.out.trans hs5.below)
                     clear hb5 hs5
                   | refine wpList_store_blk rfl 26 (.tmp 8) _ rfl (w4.heap.size + 1) 26 _ N5.out (res.map bv) rfl rfl (by rw [LRM.out]; rfl) (by rw [LRM.out]; exact HIS.out) (bv_one _) ?_
                     intro w6 hb6 hs6
                     have M6 := Lib.hid (hs6.blk M5.out (by omega))
                     have N6 := Lib.hid hb6
                     have D6 := Lib.hid (D5.out.trans (hs6.below.mono (by omega)))
                     clear hb6 hs6)
      obtain ⟨cs, hcs⟩ : ∃ cs, cs = res.map bv := ⟨_, rfl⟩
      obtain ⟨v0, hv0⟩ : ∃ v, v = Value.slice A x0.length c := ⟨_, rfl⟩
      obtain ⟨v1, hv1⟩ : ∃ v, v = Value.slice A1 x1.length c1 := ⟨_, rfl⟩
      obtain ⟨B1, hB1⟩ : ∃ B, B = w4.heap.size := ⟨_, rfl⟩
      obtain ⟨B2, hB2⟩ : ∃ B, B = w4.heap.size + 1 := ⟨_, rfl⟩
      have hS0 : TM w ga gb B1 B2 v0 v1 x0 x1 cs w6 := by
        subst hcs hv0 hv1 hB1 hB2
        exact ⟨LA4.out.below D6.out, LB4.out.below D6.out, (R0.out.below D4.out).below D6.out, (R1.out.below D4.out).below D6.out, M6.out, N6.out, (HK.out.below D4.out).below D6.out, D4.out.trans (D6.out.mono D4.out.size)⟩
      have hcl : cs.length = 32 := by rw [hcs]; exact LRM.out
      have hx : ∀ W, (Op.equalIn 10000 26 (.agg cs.toArray) (.agg cs.toArray)).run Tryd.prog W = .ok true W := fun W => by
        have h := run_equal_bytes W 26 5 32 i0 Tryd.underlying26 Tryd.underlying5 hi hz1 res res LR.out LR.out
        rw [← hcs] at h
        simpa [Op.equal, Op.maxDepth] using h
      have hu := Tryd.underlying26
      have hsi : (Tryd.prog.info? 26).map (·.size) = some cs.length := by rw [hcl]; exact HIS.out
      have C3 : Hid (∀ V, TM w ga gb B1 B2 v0 v1 x0 x1 cs V → Calls Tryd.prog 11 #[v0, v1] V fun e V' => ∃ u, e = .returned u ∧ Rd V' u res ∧ TM w ga gb B1 B2 v0 v1 x0 x1 cs V') := Lib.hid fun V hV => (refMac_any _ _ x0 x1 V hV.b0 hV.b1 (by omega) (by omega)).mono fun e V' h => by
        obtain ⟨u, he, hr, hb⟩ := h.fresh
        exact ⟨u, he, HRES.out ▸ hr, hV.on hb⟩
      have C4 : Hid (∀ V u, TM w ga gb B1 B2 v0 v1 x0 x1 cs V → Rd V u res → Calls Tryd.prog 10 #[.slice (some ⟨B1, 0, none⟩) 32 32, u] V fun e V' => e = .returned (.bool true) ∧ TM w ga gb B1 B2 v0 v1 x0 x1 cs V') := Lib.hid fun V u hV hr => (same_yes _ _ res V (by
        have h := Blk.rd (hcs ▸ hV.m1) 32 32 (by rw [LR.out]; omega) (by omega) (by unfold maxLen; omega)
        rwa [List.take_of_length_le (by rw [LR.out]; omega)] at h) hr).mono fun e V' ⟨he, n, hn⟩ => ⟨he, hn ▸ hV.drewN n⟩
      have C13 : Hid (∀ V, TM w ga gb B1 B2 v0 v1 x0 x1 cs V → Calls Tryd.prog 12 #[.slice (some ⟨ga, 0, none⟩) x0.length (x0.length + 8), v0] V fun e V' => e = .returned (.bool true) ∧ TM w ga gb B1 B2 v0 v1 x0 x1 cs V') := Lib.hid fun V hV => (kept_any ga _ x0 V hV.la hV.b0 (by omega)).mono fun e V' ⟨he, n, hn⟩ => ⟨he, hn ▸ hV.drewN n⟩
      have C18 : Hid (∀ V, TM w ga gb B1 B2 v0 v1 x0 x1 cs V → Calls Tryd.prog 12 #[.slice (some ⟨gb, 0, none⟩) x1.length (x1.length + 8), v1] V fun e V' => e = .returned (.bool true) ∧ TM w ga gb B1 B2 v0 v1 x0 x1 cs V') := Lib.hid fun V hV => (kept_any gb _ x1 V hV.lb hV.b1 (by omega)).mono fun e V' ⟨he, n, hn⟩ => ⟨he, hn ▸ hV.drewN n⟩
      have C21 : Hid (∀ V, TM w ga gb B1 B2 v0 v1 x0 x1 cs V → Calls Tryd.prog 6 #[] V fun e V' => e = .returned (.bool true) ∧ TM w ga gb B1 B2 v0 v1 x0 x1 cs V') := Lib.hid fun V hV => (hkdfAwake_any V hV.salts).mono fun e V' ⟨he, hb⟩ => ⟨he, hV.on hb⟩
      rw [← hv0, ← hv1, ← hB2, ← hB1]
      have E1 := Lib.hid hv0
      have E2 := Lib.hid hv1
      have E3 := Lib.hid hB1
      have E4 := Lib.hid hB2
      have E5 := Lib.hid hcs
      clear hv0 hv1 hB1 hB2 hcs
      refine wp_region_held_drew (S := (TM w ga gb B1 B2 v0 v1 x0 x1 cs)) (by kernel_rfl) ?_ (fun hHeld => ?_)
      · (first | assumption | exact TM.drew (by assumption) | exact TM.alloc (by assumption) _ | exact TM.drew (TM.alloc (by assumption) _))
      refine take_put (i := 0) (oi := _) (v := ?_) 28 rfl rfl (by kernel_rfl) (by kernel_rfl) (by kernel_rfl) (fun _ _ _ h => h) (Or.inl ⟨by rfl, ?hy0⟩) (by assumption) ?_
      case hy0 => ((intro W hSw); (try dsimp only at hSw); go_simp; try (with_reducible rfl))
      simp only [List.set_cons_zero, List.set_cons_succ]
      refine take_put (i := 1) (oi := _) (v := ?_) 29 rfl rfl (by kernel_rfl) (by kernel_rfl) (by kernel_rfl) (fun _ _ _ h => h) (Or.inl ⟨by rfl, ?hy1⟩) (by assumption) ?_
      case hy1 => ((intro W hSw); (try dsimp only at hSw); go_simp; try (with_reducible rfl))
      simp only [List.set_cons_zero, List.set_cons_succ]
      refine take_put (i := 2) (oi := _) (v := ?_) 30 rfl rfl (by kernel_rfl) (by kernel_rfl) (by kernel_rfl) (fun _ _ _ h => h) (Or.inl ⟨by rfl, ?hy2⟩) (by assumption) ?_
      case hy2 => ((intro W hSw); (try dsimp only at hSw); go_simp; try (with_reducible rfl))
      simp only [List.set_cons_zero, List.set_cons_succ]
      refine wpAnyH_ready (rs := [3]) (by kernel_rfl) (by simp) ?_
      refine AllReadyH.cons (o := _) rfl (fun K hK => ?_) AllReadyH.nil
      go_simp
      (with_reducible refine (C3.out _ ?_).mono ?_; (first | assumption | exact TM.drew (by assumption)); rintro e r1 ⟨u, rfl, rdu, sv1⟩)
      refine hK.out _ _ ?_ (fun hHeld => ?_)
      · (first | assumption | exact TM.drew (by assumption) | exact TM.alloc (by assumption) _ | exact TM.drew (TM.alloc (by assumption) _))
      clear hK K
      try simp only [Act.put, List.setIfInBounds_toArray, List.set_cons_zero, List.set_cons_succ]
      refine wpAnyH_ready (rs := [4]) (by kernel_rfl) (by simp) ?_
      refine AllReadyH.cons (o := _) rfl (fun K hK => ?_) AllReadyH.nil
      go_simp
      (with_reducible refine (C4.out _ u ?_ ?_).mono ?_; (first | assumption | exact TM.drew (by assumption)); (first | exact rdu | exact rdu.drew); rintro e r2 ⟨rfl, sv2⟩)
      refine hK.out _ _ ?_ (fun hHeld => ?_)
      · (first | assumption | exact TM.drew (by assumption) | exact TM.alloc (by assumption) _ | exact TM.drew (TM.alloc (by assumption) _))
      clear hK K
      try simp only [Act.put, List.setIfInBounds_toArray, List.set_cons_zero, List.set_cons_succ]
      refine take_put (i := 5) (oi := _) (v := ?_) 33 rfl rfl (by kernel_rfl) (by kernel_rfl) (by kernel_rfl) (fun _ _ _ h => h) (Or.inl ⟨by rfl, ?hy5⟩) (by assumption) ?_
      case hy5 => ((intro W hSw); (try dsimp only at hSw); go_simp; try (with_reducible rfl))
      simp only [List.set_cons_zero, List.set_cons_succ]
      refine take_put (i := 6) (oi := _) (v := _) 34 rfl rfl (by kernel_rfl) (by kernel_rfl) (by kernel_rfl) (fun _ _ _ h => h) (yieldsIf_load_mid (by rfl) _ _ rfl B1 0 rfl cs _ (fun _ h => Blk.range h.m1) hu rfl hsi) (by assumption) ?_
      simp only [List.set_cons_zero, List.set_cons_succ]
      refine take_put (i := 7) (oi := _) (v := _) 35 rfl rfl (by kernel_rfl) (by kernel_rfl) (by kernel_rfl) (fun _ _ _ h => h) (yieldsIf_load_mid (by rfl) _ _ rfl B2 0 rfl cs _ (fun _ h => Blk.range h.m2) hu rfl hsi) (by assumption) ?_
      simp only [List.set_cons_zero, List.set_cons_succ]
      refine take_put (i := 8) (oi := _) (v := ?_) 36 rfl rfl (by kernel_rfl) (by kernel_rfl) (by kernel_rfl) (fun _ _ _ h => h) (Or.inl ⟨by rfl, ?hy8⟩) (by assumption) ?_
      case hy8 => ((intro W hSw); (try dsimp only at hSw); go_simp; try (with_reducible rfl))
      simp only [List.set_cons_zero, List.set_cons_succ]
      refine take_put (i := 9) (oi := _) (v := ?_) 37 rfl rfl (by kernel_rfl) (by kernel_rfl) (by kernel_rfl) (fun _ _ _ h => h) (Or.inl ⟨by rfl, ?hy9⟩) (by assumption) ?_
      case hy9 => ((intro W hSw); (try dsimp only at hSw); go_simp; try (with_reducible rfl))
      simp only [List.set_cons_zero, List.set_cons_succ]
      refine take_put (i := 10) (oi := _) (v := ?_) 38 rfl rfl (by kernel_rfl) (by kernel_rfl) (by kernel_rfl) (fun _ _ _ h => h) (Or.inl ⟨by rfl, ?hy10⟩) (by assumption) ?_
      case hy10 => ((intro W hSw); (try dsimp only at hSw); go_simp; try (with_reducible rfl))
      simp only [List.set_cons_zero, List.set_cons_succ]
      refine take_put (i := 11) (oi := _) (v := ?_) 39 rfl rfl (by kernel_rfl) (by kernel_rfl) (by kernel_rfl) (fun _ _ _ h => h) (Or.inl ⟨by rfl, ?hy11⟩) (by assumption) ?_
      case hy11 => ((intro W hSw); (try dsimp only at hSw); go_simp; try (with_reducible rfl))
      simp only [List.set_cons_zero, List.set_cons_succ]
      refine take_put (i := 12) (oi := _) (v := ?_) 40 rfl rfl (by kernel_rfl) (by kernel_rfl) (by kernel_rfl) (fun _ _ _ h => h) (Or.inl ⟨by rfl, ?hy12⟩) (by assumption) ?_
      case hy12 => ((intro W hSw); (try dsimp only at hSw); go_simp; try (with_reducible rfl))
      simp only [List.set_cons_zero, List.set_cons_succ]
      refine wpAnyH_ready (rs := [13]) (by kernel_rfl) (by simp) ?_
      refine AllReadyH.cons (o := _) rfl (fun K hK => ?_) AllReadyH.nil
      go_simp
      (with_reducible refine (C13.out _ ?_).mono ?_; (first | assumption | exact TM.drew (by assumption)); rintro e r3 ⟨rfl, sv3⟩)
      refine hK.out _ _ ?_ (fun hHeld => ?_)
      · (first | assumption | exact TM.drew (by assumption) | exact TM.alloc (by assumption) _ | exact TM.drew (TM.alloc (by assumption) _))
      clear hK K
      try simp only [Act.put, List.setIfInBounds_toArray, List.set_cons_zero, List.set_cons_succ]
      refine take_put (i := 14) (oi := _) (v := ?_) 42 rfl rfl (by kernel_rfl) (by kernel_rfl) (by kernel_rfl) (fun _ _ _ h => h) (Or.inl ⟨by rfl, ?hy14⟩) (by assumption) ?_
      case hy14 => ((intro W hSw); (try dsimp only at hSw); go_simp; try (with_reducible rfl))
      simp only [List.set_cons_zero, List.set_cons_succ]
      refine take_put (i := 15) (oi := _) (v := ?_) 43 rfl rfl (by kernel_rfl) (by kernel_rfl) (by kernel_rfl) (fun _ _ _ h => h) (Or.inl ⟨by rfl, ?hy15⟩) (by assumption) ?_
      case hy15 => ((intro W hSw); (try dsimp only at hSw); go_simp; try (with_reducible rfl))
      simp only [List.set_cons_zero, List.set_cons_succ]
      refine take_put (i := 16) (oi := _) (v := ?_) 44 rfl rfl (by kernel_rfl) (by kernel_rfl) (by kernel_rfl) (fun _ _ _ h => h) (Or.inl ⟨by rfl, ?hy16⟩) (by assumption) ?_
      case hy16 => ((intro W hSw); (try dsimp only at hSw); go_simp; try (with_reducible rfl))
      simp only [List.set_cons_zero, List.set_cons_succ]
      refine take_put (i := 17) (oi := _) (v := ?_) 45 rfl rfl (by kernel_rfl) (by kernel_rfl) (by kernel_rfl) (fun _ _ _ h => h) (Or.inl ⟨by rfl, ?hy17⟩) (by assumption) ?_
      case hy17 => ((intro W hSw); (try dsimp only at hSw); go_simp; try (with_reducible rfl))
      simp only [List.set_cons_zero, List.set_cons_succ]
      refine wpAnyH_ready (rs := [18]) (by kernel_rfl) (by simp) ?_
      refine AllReadyH.cons (o := _) rfl (fun K hK => ?_) AllReadyH.nil
      go_simp
      (with_reducible refine (C18.out _ ?_).mono ?_; (first | assumption | exact TM.drew (by assumption)); rintro e r4 ⟨rfl, sv4⟩)
      refine hK.out _ _ ?_ (fun hHeld => ?_)
      · (first | assumption | exact TM.drew (by assumption) | exact TM.alloc (by assumption) _ | exact TM.drew (TM.alloc (by assumption) _))
      clear hK K
      try simp only [Act.put, List.setIfInBounds_toArray, List.set_cons_zero, List.set_cons_succ]
      refine take_put (i := 19) (oi := _) (v := ?_) 47 rfl rfl (by kernel_rfl) (by kernel_rfl) (by kernel_rfl) (fun _ _ _ h => h) (Or.inl ⟨by rfl, ?hy19⟩) (by assumption) ?_
      case hy19 => ((intro W hSw); (try dsimp only at hSw); go_simp; try (with_reducible rfl))
      simp only [List.set_cons_zero, List.set_cons_succ]
      refine take_put (i := 20) (oi := _) (v := ?_) 48 rfl rfl (by kernel_rfl) (by kernel_rfl) (by kernel_rfl) (fun _ _ _ h => h) (Or.inl ⟨by rfl, ?hy20⟩) (by assumption) ?_
      case hy20 => ((intro W hSw); (try dsimp only at hSw); go_simp; try (with_reducible rfl))
      simp only [List.set_cons_zero, List.set_cons_succ]
      refine wpAnyH_ready (rs := [21]) (by kernel_rfl) (by simp) ?_
      refine AllReadyH.cons (o := _) rfl (fun K hK => ?_) AllReadyH.nil
      go_simp
      (with_reducible refine (C21.out _ ?_).mono ?_; (first | assumption | exact TM.drew (by assumption)); rintro e r5 ⟨rfl, sv5⟩)
      refine hK.out _ _ ?_ (fun hHeld => ?_)
      · (first | assumption | exact TM.drew (by assumption) | exact TM.alloc (by assumption) _ | exact TM.drew (TM.alloc (by assumption) _))
      clear hK K
      try simp only [Act.put, List.setIfInBounds_toArray, List.set_cons_zero, List.set_cons_succ]
      refine take_put (i := 22) (oi := _) (v := ?_) 50 rfl rfl (by kernel_rfl) (by kernel_rfl) (by kernel_rfl) (fun _ _ _ h => h) (Or.inl ⟨by rfl, ?hy22⟩) (by assumption) ?_
      case hy22 => ((intro W hSw); (try dsimp only at hSw); go_simp; try (with_reducible rfl))
      simp only [List.set_cons_zero, List.set_cons_succ]
      refine take_put (i := 23) (oi := _) (v := ?_) 4 rfl rfl (by kernel_rfl) (by kernel_rfl) (by kernel_rfl) (fun _ _ _ h => h) (Or.inl ⟨by rfl, ?hy23⟩) (by assumption) ?_
      case hy23 => ((intro W hSw); (try dsimp only at hSw); go_simp; try (with_reducible rfl))
      simp only [List.set_cons_zero, List.set_cons_succ]
      refine wpAnyH_done (by kernel_rfl) ?_ _
      go_wp2_with (fail)
      go_ret
      exact ⟨rfl, hHeld.below⟩
    · have mI : (200 : Int) < (x1.length : Int) := by omega
      clear hm
      go_enter Tryd.func3, Tryd.ntmps3
      go_wp2_with (fail)
      all_goals
        refine (HA.out _ HK.out).mono ?_
        rintro e w1 ⟨rfl, hb⟩
        go_wp2_with (fail)
        go_ret
        exact ⟨rfl, hb⟩
  · have lI : (200 : Int) < (x0.length : Int) := by omega
    clear hl
    go_enter Tryd.func3, Tryd.ntmps3
    go_wp2_with (fail)
    refine (HA.out _ HK.out).mono ?_
    rintro e w1 ⟨rfl, hb⟩
    go_wp2_with (fail)
    go_ret
    exact ⟨rfl, hb⟩

theorem own : ownKnob Tryd.prog.godebug = none := by kernel_rfl
theorem laidOut : laidOutB Tryd.prog = true := by kernel_rfl

set_option maxRecDepth 100000 in
theorem lifted (os : Os) (started : os.Started) (H : Type) (enc : TypeId × Value → H) :
    ReturnsInHanded {} Tryd.checked os 3 .any (fun w args => (Rows.hkdfMacsSpec.pre enc Tryd.prog Tryd.f3 Rows.hkdfMacsRow.domain false w args ∧ laidMetH Tryd.prog saltsLaid w) ∧ sizedMet enc Tryd.prog Tryd.f3 (OpenSpec.ofChange Rows.hkdfMacsSpec) false w args) (Rows.hkdfMacsSpec.post enc Tryd.prog Tryd.f3 false true false false) := by
  refine returnsInHanded_of_change_and (C := Tryd.checked) (X := fun w _ => laidMetH Tryd.prog saltsLaid w) (fun _ _ _ hh h => h.of_heap hh) own started (by kernel_rfl) Tryd.func3
    (ChangeSpec.witness_shaped (enc := enc) (C := Tryd.checked) (os := os) (X := fun w _ => laidMetH Tryd.prog saltsLaid w) false (World.doorLaid Tryd.prog 400 os) #[.slice none 0 0, .slice none 0 0] 8 rfl (World.shaped_of_RefB (by kernel_rfl) (by kernel_rfl)) (by kernel_rfl) (by kernel_rfl) (by kernel_rfl) (door_met os _)) ?_
  intro W base args ds gs before hval0 hW _ _ hL _
  have hval : ∀ (j : Nat) t v, Tryd.f3.params[j]? = some t → args[j]? = some v → Value.okWide Tryd.prog W .any base t v := hval0
  have hW' := hW
  obtain ⟨p, q, hA0, hV, rfl, hfz, hnd⟩ := hW
  have hA : DataW.TrodAll enc Tryd.prog W 0 (fun _ => true) true Tryd.f3.params.toList args.toList ds p := hA0
  rw [Tryd.params3] at hA hval
  obtain ⟨v0, vs0, dd0, ds0, p0, q0, hargs, rfl, rfl, h0, r0⟩ := trodAll_cons hA
  obtain ⟨v1, vs1, dd1, ds1, p1, q1, rfl, rfl, rfl, h1, r1⟩ := trodAll_cons r0
  obtain ⟨rfl, rfl, rfl⟩ := trodAll_nil r1
  obtain rfl : args = #[v0, v1] := by cases args; simp_all
  obtain ⟨rfl, rfl⟩ := trodVars_none hV
  obtain ⟨A0, n0, c0, rfl⟩ := okWide_slice Tryd.underlying22 (hval 0 22 v0 rfl rfl)
  have g0 := h0
  have lt0 : ∀ x ∈ p0, x.block < W.heap.size := by obtain ⟨m, hm⟩ := g0; exact DataW.trod_lt m _ _ _ hm
  obtain ⟨x0, k0⟩ : ∃ xs, Rd W (.slice A0 n0 c0) xs := by
    obtain ⟨fuel, hf⟩ := h0
    rcases open_ints Tryd.underlying22 Tryd.underlying5 (by kernel_rfl) hf with ⟨hcs, _⟩ | ⟨x, l, c, zs, hcs, _, hl, hm, hz, _, hcell, hwz⟩
    · simp [Value.cells] at hcs
      obtain ⟨rfl, rfl, rfl⟩ := hcs
      exact ⟨[], Rd.nil W⟩
    · simp [Value.cells] at hcs
      obtain ⟨rfl, rfl, rfl⟩ := hcs
      exact rd_of_row hl hm (by simpa using hz) hcell hwz
  obtain ⟨A1, n1, c1, rfl⟩ := okWide_slice Tryd.underlying22 (hval 1 22 v1 rfl rfl)
  have g1 := h1
  have lt1 : ∀ x ∈ p1, x.block < W.heap.size := by obtain ⟨m, hm⟩ := g1; exact DataW.trod_lt m _ _ _ hm
  obtain ⟨x1, k1⟩ : ∃ xs, Rd W (.slice A1 n1 c1) xs := by
    obtain ⟨fuel, hf⟩ := h1
    rcases open_ints Tryd.underlying22 Tryd.underlying5 (by kernel_rfl) hf with ⟨hcs, _⟩ | ⟨x, l, c, zs, hcs, _, hl, hm, hz, _, hcell, hwz⟩
    · simp [Value.cells] at hcs
      obtain ⟨rfl, rfl, rfl⟩ := hcs
      exact ⟨[], Rd.nil W⟩
    · simp [Value.cells] at hcs
      obtain ⟨rfl, rfl, rfl⟩ := hcs
      exact rd_of_row hl hm (by simpa using hz) hcell hwz
  clear hA0 hval0
  refine (walk _ x0 _ x1 W k0 k1 (salts_of_laid hL)).mono fun e W' ⟨he, bel⟩ => ?_
  subst he
  exact ⟨_, rfl, _, _, _, [], _, [], hW', trodAll_mk1 (shut_bool Tryd.underlying4 _), (trodAll_cons_mk (Below.trod laidOut (by kernel_rfl) (of_decide_eq_true (by kernel_rfl)) g0 bel lt0) (trodAll_cons_mk (Below.trod laidOut (by kernel_rfl) (of_decide_eq_true (by kernel_rfl)) g1 bel lt1) trodAll_mk0)), rfl, bel.frame _, fun h => by cases h⟩

theorem over : Rows.hkdfMacsRow.holds Tryd.pinned (OpenSpec.ofChange Rows.hkdfMacsSpec) :=
  OpenClaim.holds_of_wide 3 Tryd.f3 rfl rfl rfl rfl rfl rfl rfl ⟨rfl, rfl, rfl, rfl, rfl⟩ rfl rfl rfl rfl rfl (by kernel_rfl) Tryd.func3 (by kernel_rfl)
    (of_decide_eq_true (by kernel_rfl)) (by unfold Func.isWrapper; first | (rw [if_pos (by decide +kernel)]; kernel_rfl) | (rw [if_neg (by decide +kernel)]; exact ⟨rfl, rfl⟩))
    (fun os started H enc _ => lifted os started H enc)

theorem proved : Rows.HkdfMacsCardSaid :=
  Claim7.holds_tied_plain_at .later [] [.data] true Rows.hkdfMacsCard.stood.harness false
    over (fun _ h => by cases h) (by kernel_rfl) (fun _ h => by cases h) hkdfMacs_row_tie rfl ⟨rfl, rfl⟩ (by kernel_rfl) rfl
    (fun f fn hf hfn => by
      obtain rfl : f = 3 := Option.some.inj ((show Tryd.prog.funcNamed Rows.hkdfMacsRow.func = some 3 by kernel_rfl).symm.trans hf) |>.symm
      obtain rfl : fn = Tryd.f3 := (Option.some.inj (Tryd.func3.symm.trans hfn)).symm
      exact ⟨by kernel_rfl, fun j t ht => by
        rw [Tryd.params3] at ht
        have hm := List.mem_of_getElem? (l := [22, 22]) (by simpa using ht)
        simp only [List.mem_cons, List.not_mem_nil, or_false] at hm
        rcases hm with rfl | rfl
        · exact (show Tryd.prog.wantsStandIn 22 = false by kernel_rfl)
        · exact (show Tryd.prog.wantsStandIn 22 = false by kernel_rfl)⟩)
    (by kernel_rfl)
#print axioms proved
end Go.Proofs.YtpjidfcbckndfaaDoor.hkdfMacs
