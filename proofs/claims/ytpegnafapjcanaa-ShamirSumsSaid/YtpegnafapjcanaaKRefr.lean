/- The contracts of the developers' Refresh: other shares of the same secret, or that they are refused. Conditions: shares of 33 bytes, at most 8; at most 12 coefficients, at most 1000 draws. -/
import Derived.Test.YtpegnafapjcanaaKSplit
namespace Go.Proofs.Ytpegnafapjcanaa
open Go.RowKit

theorem rows_33 {M : List (List UInt8)} (h : ∀ l ∈ M, l.length = 33) : ∀ l ∈ rows M, l.length = 33 := fun l hl => by
  unfold rows at hl
  obtain ⟨l', h1, rfl⟩ := List.mem_map.1 hl
  rw [List.length_map]
  exact h l' h1
set_option maxRecDepth 100000 in
set_option maxHeartbeats 4000000 in
theorem clone_any (v : Value) (L : List (List UInt8)) (w : World) (hr : Rf 33 w v L) (hn : L.length ≤ 1000) :
    Calls Try.prog 25 #[v] w fun e w' => ∃ u, e = .returned u ∧ OwnR 33 w' w.heap.size 31 u (rows L) ∧ Below w.heap.size w w' := by
  obtain ⟨ish, his, hisz, hiss, hisb⟩ := info_of info_share
  obtain ⟨W0, hW0⟩ : ∃ W : World, W = w.alloc (.cells #[] 31) := ⟨_, rfl⟩
  have D0 : Hid (Below w.heap.size w W0) := Lib.hid (by rw [hW0]; exact (Below.refl _ _).alloc (Nat.le_refl _) _)
  have O0 : Hid (OwnR 33 W0 w.heap.size 31 (.slice (some ⟨w.heap.size, 0, none⟩) 0 0) []) := Lib.hid ⟨fun l hl => (List.not_mem_nil hl).elim, by
    rw [hW0]
    exact World.ownsRow_lit w #[] 0 (Nat.le_refl _) (Nat.zero_le _) rfl⟩
  have HN := Lib.hid hn
  have H33 := Lib.hid hr.1
  rcases hr.2 with ⟨A, c, rfl, hc, rfl⟩ | ⟨b, off, c, rfl, hb, hlc, hc, hcell⟩
  · cases A with
    | none =>
      have he : ∀ W : World, (binOp .eql 26 (.slice none 0 c) (.slice none 0 0)).run Try.prog W = .ok (.bool true) W := fun _ => rfl
      clear hr hn hW0
      go_enter Try.func25, Try.ntmps25
      go_wp2_with (fail)
      go_ret
      exact ⟨_, rfl, OwnR.nil _ _ _ _, Below.refl _ _⟩
    | some ad =>
      have he : ∀ W : World, (binOp .eql 26 (.slice (some ad) 0 c) (.slice none 0 0)).run Try.prog W = .ok (.bool false) W := fun _ => rfl
      clear hr hn
      go_enter Try.func25, Try.ntmps25
      go_wp2_with (at_builtin
                   rw [← hW0]
                   refine wpList_append_own_at W0 rfl _ _ _ rfl w.heap.size 31 ish _ 33 33 Try.underlying26 his hisz hiss hisb (by simp [Value.cells, zeros33]) (by decide) _ 0 [] rfl O0.out.2 ad 0 c [] rfl rfl (fun j u h => by cases h) (fun u h => by cases h) (by decide) (by decide) D0.out.size ?_
                   intro v2 w2 own2 g2 _ _)
      go_ret
      exact ⟨_, rfl, ⟨fun l hl => (List.not_mem_nil hl).elim, own2⟩, D0.out.grown g2 D0.out.size (fun k hk => (O0.out.lt k hk).1)⟩
  · have hcw : ∀ i j, i < (rows L).length → j < 33 → W0.cell? ⟨b, off + (i * 33 + j), none⟩ = ((rows L).getD i [])[j]? := fun i j hi hj => by
      rw [rows_len] at hi
      have hln := len_get H33.out hi
      have h := hcell i j hi hj
      rw [rows_at L hi]
      obtain ⟨l, hl0⟩ : ∃ l, l = L.getD i [] := ⟨_, rfl⟩
      rw [← hl0] at hln h ⊢
      rw [D0.out.cell (p := ⟨b, off + (i * 33 + j), none⟩) hb, ← Nat.add_assoc, h, List.getElem?_map, List.getD, List.getElem?_eq_getElem (by rw [hln]; exact hj)]
      rfl
    have HV : Hid ((Value.slice (some ⟨b, off, none⟩) L.length c = .slice none 0 0 ∧ rows L = []) ∨ ∃ b' off' c', Value.slice (some ⟨b, off, none⟩) L.length c = .slice (some ⟨b', off', none⟩) (rows L).length c' ∧ ∀ i j, i < (rows L).length → j < 33 → W0.cell? ⟨b', off' + (i * 33 + j), none⟩ = ((rows L).getD i [])[j]?) := Lib.hid (.inr ⟨b, off, c, by rw [rows_len], hcw⟩)
    have HL1 : Hid (([] : List (List Value)).length + (rows L).length ≤ maxLen) := Lib.hid (by rw [rows_len]; unfold maxLen; simp; omega)
    have HL2 : Hid ((([] : List (List Value)).length + (rows L).length) * 33 ≤ 140737488355328) := Lib.hid (by rw [rows_len]; simp; omega)
    have H1 : Hid (∀ l ∈ rows L, ∀ u ∈ l, u.oneCell' = true) := Lib.hid fun l hl u hu => by
      unfold rows at hl
      obtain ⟨l', _, rfl⟩ := List.mem_map.1 hl
      exact bv_one l' u hu
    have HR33 := Lib.hid (rows_33 H33.out)
    have he : ∀ W : World, (binOp .eql 26 (.slice (some ⟨b, off, none⟩) L.length c) (.slice none 0 0)).run Try.prog W = .ok (.bool false) W := fun _ => rfl
    clear hr hn hb hlc hc hcell hcw
    go_enter Try.func25, Try.ntmps25
    go_wp2_with (at_builtin
                 rw [← hW0]
                 refine wpList_append_rowR W0 rfl _ _ _ rfl w.heap.size 31 ish _ 33 33 Try.underlying26 his hisz hiss hisb (by simp [Value.cells, zeros33]) (by decide) _ [] rfl O0.out _ (rows L) HR33.out H1.out rfl HV.out HL1.out HL2.out D0.out.size ?_
                 intro v2 w2 own2 nx2)
    go_ret
    exact ⟨_, rfl, own2, D0.out.trans nx2.below⟩
set_option maxRecDepth 100000 in
set_option maxHeartbeats 4000000 in
theorem refre : RefrE := by
  intro v L t vd draws w k hr hl hwt ht12 hrd hd hk
  have HR := Lib.hid hr
  have HL : Hid (L.length ≤ 1000) := Lib.hid (by omega)
  clear hwt ht12 hrd hd hr hl
  go_enter Try.func12, Try.ntmps12
  rcases hk with ⟨h1, rfl⟩ | ⟨h1, hp, rfl⟩
  · go_wp2_with (fail)
    go_ret2
    exact ⟨_, rfl, Rf.empty _ _ _ (Nat.zero_le _), Below.refl _ _⟩
  · have h2 : ¬ t < 1 := by omega
    obtain ⟨k, hk⟩ : ∃ k, k = placesB L := ⟨_, rfl⟩
    rw [← hk] at hp
    have HK := Lib.hid hk
    have p1 : ((k : Int) == 0) = false := by rw [beq_eq_false_iff_ne]; omega
    have p2 : ¬ (k : Int) = 0 := by omega
    clear hk hp h1
    go_wp2_with (fail)
    refine (places_any _ L w HR.out HL.out).mono ?_
    rintro e w1 ⟨rfl, hb1⟩
    rw [← HK.out]
    have D1 := Lib.hid hb1
    clear hb1
    go_wp2_with (fail)
    go_ret2
    exact ⟨_, by rw [HK.out]; rfl, Rf.empty _ _ _ (Nat.zero_le _), D1.out⟩
set_option maxRecDepth 100000 in
set_option maxHeartbeats 4000000 in
theorem refrc : RefrC := by
  intro v L t vd draws w hr hl ht ht12 hrd hd hp
  have HR := Lib.hid hr
  have HL : Hid (L.length ≤ 1000) := Lib.hid (by omega)
  have HP := Lib.hid hp
  have HRD := Lib.hid hrd
  have HD := Lib.hid hd
  have HT := Lib.hid ht
  have HT2 : Hid (t ≤ 1000) := Lib.hid (by omega)
  have H33 := Lib.hid hr.1
  have HRB : Hid (addAll zeros32 t draws L = refrB L t draws) := Lib.hid rfl
  have h2 : ¬ (t : Int) < 1 := by omega
  have tI : (t : Int) ≤ 12 := by omega
  clear hr hl ht ht12 hrd hd hp
  go_enter Try.func12, Try.ntmps12
  go_wp2_with (fail)
  refine (places_any _ L w HR.out HL.out).mono ?_
  rintro e w1 ⟨rfl, hb1⟩
  rw [HP.out]
  have D1 := Lib.hid hb1
  clear hb1
  go_wp2_with (fail)
  refine (clone_any _ L w1 (HR.out.below D1.out) HL.out).mono ?_
  rintro e w2 ⟨u, rfl, ho2, hb2⟩
  obtain ⟨A, c, rfl, _, _, _⟩ := ho2.form
  have D2 := Lib.hid (D1.out.trans (hb2.mono D1.out.size))
  have ho3 : OwnR 33 w2 w.heap.size 31 (.slice A (rows L).length c) (rows L) := ⟨ho2.1, ho2.2.1, ho2.2.2.imp id fun ⟨g, cap, cur, h1, h2, h3⟩ => ⟨g, cap, cur, h1, Nat.le_trans D1.out.size h2, h3⟩⟩
  rw [rows_len] at ho3 ⊢
  have hS : RowS w (.slice A L.length c) L vd draws w2 := ⟨ho3, HRD.out.below D2.out, D2.out⟩
  have hBK : Try.prog.built 23 [] = some (zeros32.map bv).toArray := built_key
  have C1 : Hid (∀ V, RowS w (.slice A L.length c) L vd draws V → Calls Try.prog 20 #[] V fun e V' => ∃ B, e = .returned (.pointer (some ⟨B, 0, none⟩)) ∧ Tab V' B ∧ RowS w (.slice A L.length c) L vd draws V') := Lib.hid fun V h2 => (buildc V).mono fun e V' ⟨B, he, hT, hb⟩ => ⟨B, he, hT, h2.on hb⟩
  have C2 : Hid (∀ V B, RowS w (.slice A L.length c) L vd draws V → Tab V B → Calls Try.prog 19 #[.pointer (some ⟨B, 0, none⟩), .slice A L.length c, .agg (zeros32.map bv).toArray, .int .i64 (t : Int), vd] V fun e V' => e = .returned (.tuple #[]) ∧ OwnR 33 V' w.heap.size 31 (.slice A L.length c) (rows (refrB L t draws)) ∧ Below w.heap.size w V') := Lib.hid fun V B hV hT => by
    have h := add_row zeros32 t (by simp [zeros32]) HT.out HT2.out HL.out HD.out H33.out HRD.out hV hT
    rw [HRB.out] at h
    exact h.mono fun e V' ⟨he, ho, hb, _⟩ => ⟨he, ho, hb⟩
  clear ho2 ho3 hb2
  go_wp2_with (fail)
  refine (C1.out w2 hS).mono ?_
  rintro e v1 ⟨B1, rfl, t1, s1⟩
  clear hS
  go_wp2_with (refine wpList_build_is rfl 23 _ rfl _ rfl _ hBK ?_)
  refine (C2.out _ _ s1 t1).mono ?_
  rintro e v2 ⟨rfl, o2, b2⟩
  have HRF := Lib.hid (rf_of_rows o2)
  have HB2 := Lib.hid b2
  clear o2 b2
  go_wp2_with (fail)
  go_ret2
  exact ⟨_, rfl, HRF.out, HB2.out⟩
end Go.Proofs.Ytpegnafapjcanaa
