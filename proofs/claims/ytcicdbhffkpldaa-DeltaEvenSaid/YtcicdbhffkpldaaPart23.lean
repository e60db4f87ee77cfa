/- Part 23 of the words that the laws share: DtSho. No condition of its own: each theorem says its own. -/
import Derived.Test.YtcicdbhffkpldaaPart22
import Derived.Test.YtcicdbhffkpldaaPart6
import Derived.Test.YtcicdbhffkpldaaPart11
import Derived.Test.YtcicdbhffkpldaaPart12
import Derived.Test.YtcicdbhffkpldaaPart2
import Derived.Test.YtcicdbhffkpldaaPart3
import Derived.Deep.RegionHeld3

/- A variable of bytes that grow, captured; the developers' formOf$1 lays a short form behind them. Conditions: few bytes; the number fits uint64. -/
namespace Go.Proofs.Ytcicdbhffkpldaa
open Go.RowKit

theorem size_bs : (Try.prog.info? 25).map (·.size) = some 1 := by kernel_rfl
/-- A row of bytes of one's own doesn't lie where something else lies. -/
theorem own_far {w : World} {base n B : Nat} {v : Value} {xs cs : List Value} {T : TypeId} (h : w.ownsRow base 5 1 v n xs) (hb : Blk w B T cs) (hT : T ≠ 5) : v.ownBlock ≠ some B := fun e => by
  rcases h with ⟨_, h2 | ⟨g, cap, cur, rfl, _, hg, _⟩⟩
  · rw [h2.1] at e
    cases e
  · injection e with e
    subst e
    unfold Blk at hb
    rw [hg] at hb
    injection hb with hb
    injection hb with _ h1
    exact hT h1.symm
/-- The bytes so far, in the variable's block X. -/
structure FV (w0 w : World) (X : Nat) (xs : List UInt8) : Prop where
  ex : ∃ v, Blk w X 25 [v] ∧ OB w0 w v xs
  low : w0.heap.size ≤ X
/-- What else lies in blocks of its own stays. -/
structure Kp (w w' : World) (X : Nat) : Prop where
  size : w.heap.size ≤ w'.heap.size
  blk : ∀ B T cs, T ≠ 5 → B ≠ X → Blk w B T cs → Blk w' B T cs
theorem Kp.trans {a b c : World} {X : Nat} (h : Kp a b X) (k : Kp b c X) : Kp a c X := ⟨Nat.le_trans h.size k.size, fun B T cs h1 h2 h3 => k.blk B T cs h1 h2 (h.blk B T cs h1 h2 h3)⟩
theorem fv_step {w0 w w1 w2 w3 : World} {X : Nat} {v v' : Value} {xs ys : List UInt8} (hX : Blk w X 25 [v]) (hob : OB w0 w v xs) (hx : w0.heap.size ≤ X) (hb : Below w.heap.size w w1) (hown : w2.ownsRow w0.heap.size 5 1 v' (xs.length + ys.length) (xs.map bv ++ ys.map bv)) (hg : w1.grownBy w2 v.ownBlock) (h3 : Blk w3 X 25 [v']) (hs : Sole w2 w3 X) : FV w0 w3 X (xs ++ ys) ∧ Kp w w3 X := by
  have k1 : Blk w1 X 25 [v] := hX.below hb hX.lt
  have own1 := own_lain hob.own hb
  have k2 : Blk w2 X 25 [v] := k1.grew hg (own_far own1 k1 (by decide))
  have n2 := own_far hown k2 (by decide)
  have l1 := hob.low.trans (hb.mono hob.low.size)
  have l2 := l1.grown hg l1.size (own_ge own1)
  refine ⟨⟨⟨v', h3, ⟨?_, ?_⟩⟩, hx⟩, ⟨?_, fun B T cs h1 h2 h4 => ?_⟩⟩
  · have h := own_sole hown hs n2
    rw [List.length_append, List.map_append]
    exact h
  · exact ⟨hs.below.os.trans l2.os, hs.below.tape.trans l2.tape, hs.below.output.trans l2.output, by rw [hs.size]; exact l2.size, fun k hk => (hs.other k (by omega)).trans (l2.block k hk)⟩
  · rw [hs.size]
    exact Nat.le_trans hb.size hg.size
  · have b1 : Blk w1 B T cs := h4.below hb h4.lt
    have b2 : Blk w2 B T cs := b1.grew hg (own_far own1 b1 h1)
    exact hs.blk b2 h2
set_option maxRecDepth 100000 in
set_option maxHeartbeats 2000000 in
theorem short_any (w0 w : World) (X : Nat) (xs : List UInt8) (n : Nat) (h : FV w0 w X xs) (hn : n < 18446744073709551616) (hl : xs.length ≤ 1000000000) :
    Calls Try.prog 32 #[.int .u64 (n : Int), .pointer (some ⟨X, 0, none⟩)] w fun e w' => e = .returned (.tuple #[]) ∧ FV w0 w' X (xs ++ sh n) ∧ Kp w w' X := by
  obtain ⟨i0, hi, hz0, hz1, hz2⟩ := info_parts info_u8
  obtain ⟨v, hX, hob⟩ := h.ex
  obtain ⟨A, c, hv, _⟩ := row_form hob.own
  subst hv
  obtain ⟨ys, hy⟩ : ∃ ys, ys = sh n := ⟨_, rfl⟩
  have hy1 : 0 < ys.length := by rw [hy]; exact (shortB_len 9 n).1
  have hy2 : ys.length ≤ 10 := by rw [hy]; exact sh_len n
  have HY : Hid (0 < ys.length ∧ xs.length + ys.length ≤ 140737488355328) := Lib.hid ⟨hy1, by omega⟩
  have PutC : Hid (∀ W, Calls Try.prog 33 #[.slice none 0 0, .int .u64 (n : Int)] W (Own W 5 ys)) := Lib.hid fun W => by
    rw [hy]
    exact putShort_any _ [] n W (Rd.nil W) (by simp) (by omega)
  rw [← hy]
  obtain ⟨na, hna⟩ : ∃ k, k = xs.length := ⟨_, rfl⟩
  rw [← hna] at hX hob
  have HX := Lib.hid hX
  have OBV := Lib.hid hob
  have HLE := Lib.hid h.low
  have DB : Hid (Below w.heap.size w w.drew) := Lib.hid (below_drewN (Below.refl _ w) 1)
  have c0 : w.cell? ⟨X, 0, none⟩ = some (.slice A na c) := hX.cell 0
  clear hX hob h hy hy1 hy2 hl hn hna
  go_enter Try.func32, Try.ntmps32
  go_wp2_with (fail)
  refine wp_region_noPanic ?_
  refine wp_region_held_drew (S := fun _ => True) (by kernel_rfl) trivial (fun hHeld => ?_)
  refine take_put (i := 1) (oi := _) (v := ?_) 4 rfl rfl (by kernel_rfl) (by kernel_rfl) (by kernel_rfl) (fun _ _ _ h => h) (Or.inl ⟨by rfl, ?hy1⟩) trivial ?_
  case hy1 => ((intro W hSw); (try dsimp only at hSw); go_simp; try (with_reducible rfl))
  simp only [List.set_cons_zero, List.set_cons_succ]
  refine wpAnyH_ready (rs := [0, 2]) (by kernel_rfl) (by simp) ?_
  refine AllReadyH.cons (o := _) rfl (fun K hK => ?_) (AllReadyH.cons (o := _) rfl (fun K hK => ?_) AllReadyH.nil)
  · go_simp
    refine hK.out _ _ trivial (fun _ => ?_)
    clear hK K
    try simp only [Act.put, List.setIfInBounds_toArray, List.set_cons_zero, List.set_cons_succ]
    refine wpAnyH_ready (rs := [2]) (by kernel_rfl) (by simp) ?_
    refine AllReadyH.cons (o := _) rfl (fun K hK => ?_) AllReadyH.nil
    go_simp
    refine (PutC.out _).mono ?_
    rintro e w1 ⟨u, rfl, ownU, bU⟩
    have RU := Lib.hid (Rd.of_own ownU)
    have BU := Lib.hid (DB.out.trans (bU.mono DB.out.size))
    clear ownU bU
    refine hK.out _ _ trivial (fun _ => ?_)
    clear hK K
    try simp only [Act.put, List.setIfInBounds_toArray, List.set_cons_zero, List.set_cons_succ]
    have own1 := own_lain OBV.out.own BU.out
    have BX1 := Lib.hid (HX.out.below BU.out HX.out.lt)
    refine wpAnyH_ready (rs := [3]) (by kernel_rfl) (by simp) ?_
    refine AllReadyH.cons (o := _) rfl (fun K hK => ?_) AllReadyH.nil
    refine step_append_rd w1 rfl (.tmp 3) (.tmp 5) _ rfl w0.heap.size 5 i0 _ Try.underlying25 hi hz0 hz1 hz2 rfl (.slice A na c) xs.length (xs.map bv) rfl own1 _ ys rfl RU.out HY.out.1 HY.out.2 (by have h1 := OBV.out.low.size; have h2 := BU.out.size; omega) ?_
    intro v2 w2 own2 g2
    obtain ⟨A2, c2, e2, _⟩ := row_form own2
    subst e2
    have HO2 := Lib.hid own2
    have HG2 := Lib.hid g2
    have BX2 := Lib.hid (BX1.out.grew g2 (own_far OBV.out.own HX.out (by decide)))
    clear own1 own2 g2
    refine hK.out _ _ trivial (fun _ => ?_)
    clear hK K
    try simp only [Act.put, List.setIfInBounds_toArray]
    refine wpAnyH_ready (rs := [4]) (by kernel_rfl) (by simp) ?_
    refine AllReadyH.cons (o := _) rfl (fun K hK => ?_) AllReadyH.nil
    refine step_store_blk rfl 25 _ _ rfl X 0 25 _ BX2.out _ rfl rfl (by simp) rfl rfl size_bs ?_
    intro w3 bk3 so3
    have HF := Lib.hid (fv_step HX.out OBV.out HLE.out BU.out HO2.out HG2.out bk3 so3)
    clear bk3 so3 BX2 HO2 HG2
    refine hK.out _ _ trivial (fun _ => ?_)
    clear hK K
    try simp only [Act.put]
    refine wpAnyH_done (by kernel_rfl) ?_ _
    refine NoPanic.normal ?_
    go_end0
    exact ⟨rfl, HF.out⟩
  · go_simp
    refine (PutC.out _).mono ?_
    rintro e w1 ⟨u, rfl, ownU, bU⟩
    have RU := Lib.hid (Rd.of_own ownU)
    have BU := Lib.hid (DB.out.trans (bU.mono DB.out.size))
    clear ownU bU
    refine hK.out _ _ trivial (fun _ => ?_)
    clear hK K
    try simp only [Act.put, List.setIfInBounds_toArray, List.set_cons_zero, List.set_cons_succ]
    have c1 : w1.cell? ⟨X, 0, none⟩ = some (.slice A na c) := (HX.out.below BU.out HX.out.lt).cell 0
    refine wpAnyH_ready (rs := [0]) (by kernel_rfl) (by simp) ?_
    refine AllReadyH.cons (o := _) rfl (fun K hK => ?_) AllReadyH.nil
    go_simp
    refine hK.out _ _ trivial (fun _ => ?_)
    clear hK K
    try simp only [Act.put, List.setIfInBounds_toArray, List.set_cons_zero, List.set_cons_succ]
    clear c1
    have own1 := own_lain OBV.out.own BU.out
    have BX1 := Lib.hid (HX.out.below BU.out HX.out.lt)
    refine wpAnyH_ready (rs := [3]) (by kernel_rfl) (by simp) ?_
    refine AllReadyH.cons (o := _) rfl (fun K hK => ?_) AllReadyH.nil
    refine step_append_rd w1 rfl (.tmp 3) (.tmp 5) _ rfl w0.heap.size 5 i0 _ Try.underlying25 hi hz0 hz1 hz2 rfl (.slice A na c) xs.length (xs.map bv) rfl own1 _ ys rfl RU.out HY.out.1 HY.out.2 (by have h1 := OBV.out.low.size; have h2 := BU.out.size; omega) ?_
    intro v2 w2 own2 g2
    obtain ⟨A2, c2, e2, _⟩ := row_form own2
    subst e2
    have HO2 := Lib.hid own2
    have HG2 := Lib.hid g2
    have BX2 := Lib.hid (BX1.out.grew g2 (own_far OBV.out.own HX.out (by decide)))
    clear own1 own2 g2
    refine hK.out _ _ trivial (fun _ => ?_)
    clear hK K
    try simp only [Act.put, List.setIfInBounds_toArray]
    refine wpAnyH_ready (rs := [4]) (by kernel_rfl) (by simp) ?_
    refine AllReadyH.cons (o := _) rfl (fun K hK => ?_) AllReadyH.nil
    refine step_store_blk rfl 25 _ _ rfl X 0 25 _ BX2.out _ rfl rfl (by simp) rfl rfl size_bs ?_
    intro w3 bk3 so3
    have HF := Lib.hid (fv_step HX.out OBV.out HLE.out BU.out HO2.out HG2.out bk3 so3)
    clear bk3 so3 BX2 HO2 HG2
    refine hK.out _ _ trivial (fun _ => ?_)
    clear hK K
    try simp only [Act.put]
    refine wpAnyH_done (by kernel_rfl) ?_ _
    refine NoPanic.normal ?_
    go_end0
    exact ⟨rfl, HF.out⟩
end Go.Proofs.Ytcicdbhffkpldaa
