/- The fifteenth reference's Text: its loop. Condition: a series whose labels are at most 8. -/
import Derived.Test.YtckgpocfcanokaaLbRow
import Derived.Test.YtckgpocfcanokaaSrowB
import Derived.Test.YtckgpocfcanokaaKept
import Derived.Test.YtckgpocfcanokaaInv
import Derived.Deep.RegionHeld3
import Derived.Deep.Cut
namespace Go.Proofs.Ytckgpocfcanokaa
open Go.RowKit

/-- append of one element, which lies in a new block of its own, at a step; the frame told by slot. -/
theorem step_append_elR {P : Program} (w : World) (l : List Value) (e0 : TypeId) {ops : Array Oper} {o : Oper} {a : Act} {K : Act → World → Prop} {Q : Exit → Act → World → Prop} {E : Prop} (hgd : o.guard = none) (d : Nat) (hd : o.dst = some d) (s x : Operand) (t : TypeId)
    (ho : o.op = .call { callee := .builtin .append, args := #[s, x], argTypes := #[t, t] })
    (base : Nat) (e : TypeId) (i : TypeInfo) (z : Value) (n bytes : Nat) (ht : P.underlying t = some (.slice e)) (hi : P.info? e = some i) (hz : i.zero = some z)
    (hsize : i.size = n) (hby : i.bytes = bytes) (hzs : z.cells.size = n) (hn : 0 < n)
    (v : Value) (R : List (List Value)) (hs : a.eval s = v) (hown : OwnR n w base e v R) (hl : l.length = n) (h1 : ∀ u ∈ l, u.oneCell' = true)
    (hx : a.eval x = .slice (some ⟨w.heap.size, 0, none⟩) 1 1)
    (h63 : R.length + 1 ≤ maxLen) (hb : (R.length + 1) * bytes ≤ 140737488355328) (hbase : base ≤ w.heap.size)
    (h : ∀ v' w', OwnR n w' base e v' (R ++ [l]) → Next w w' base v v' → K ⟨a.tmps.setIfInBounds d v', a.defers⟩ w') : if Region.wanted o (yielded ops a.tmps) = true then Oper.wp P o a (w.alloc (.cells l.toArray e0)) K Q else E := by
  refine step_wanted hgd ?_
  obtain ⟨v', w', hr, h2, h3, _, h5⟩ := run_append_own_at (P := P) (w.alloc (.cells l.toArray e0)) base t o.type e i z n bytes ht hi hz hsize hby hzs hn v R.length R.flatten (hown.2.alloc _) ⟨w.heap.size, 0, none⟩ 1 1 l (by rw [hl, Nat.one_mul]) (World.news_of_block (cs := l.toArray) (t := e0) (fr := (0, 0)) (heap_alloc_new w _)) h1 h63 hb (by simp; omega)
  unfold Oper.wp execOp
  simp only [ho, resolve, invoke, builtin, Sem.run_bind, Sem.run_pure, Result.andThen_ok, List.map_toArray, List.map_cons, List.map_nil, hs, hx, hr]
  have hput : a.put o.dst v' = ⟨a.tmps.setIfInBounds d v', a.defers⟩ := by rw [hd]; rfl
  show K (a.put o.dst v') w'
  rw [hput]
  refine h v' w' ⟨fun l' hl' => ?_, ?_⟩ ⟨((Below.refl _ _).alloc hbase _).grown h3 (by simp; omega) (fun k hk => (hown.lt k hk).1), ?_, fun k hk hne => ?_, ?_⟩
  · rcases List.mem_append.1 hl' with h4 | h4
    · exact hown.1 l' h4
    · rw [List.mem_singleton.1 h4]; exact hl
  · have e1 : (R ++ [l]).flatten = R.flatten ++ l := by rw [List.flatten_append, List.flatten_singleton]
    rw [e1, List.length_append]
    exact h2
  · have := h3.size; simp at this; omega
  · exact (h3.block k (by simp; omega) hne).trans (Below.heap_alloc w _ k hk)
  · rcases h5 with e5 | e5
    · exact .inl e5
    · exact .inr ⟨_, e5, by simp⟩
theorem info_qu : (Try.prog.info? 41).map (fun i => (i.zero, i.size, i.bytes)) = some (some (.agg #[.string ByteArray.empty, .int .i64 0, .string ByteArray.empty]), 3, 40) := by kernel_rfl
/-- A label as a question. -/
def asQ (q : Qu) : List Value := [.string q.n, .int .i64 0, .string q.v]
/-- The selector under way: its block, its row. -/
structure TxS (w1 : World) (Y : Nat) (n : ByteArray) (R : List (List Value)) (v : Value) (V : World) : Prop where
  blk : Blk V Y 28 [.string n, v]
  own : OwnR 3 V (Y + 1) 41 v R
  old : Below Y w1 V
theorem TxS.next {w1 V W : World} {Y : Nat} {n : ByteArray} {R : List (List Value)} {v v' : Value} {l : List Value} (h : TxS w1 Y n R v V) (ho : OwnR 3 W (Y + 1) 41 v' (R ++ [l])) (hn : Next V W (Y + 1) v v') : TxS w1 Y n (R ++ [l]) v' (W.setCell ⟨Y, 1, none⟩ v') := by
  have h1 : Blk W Y 28 [.string n, v] := by
    have h2 := h.blk
    unfold Blk at h2 ⊢
    rw [hn.below.block Y (by omega)]
    exact h2
  refine ⟨h1.set 1 v', ?_, ?_⟩
  · refine Chg.ownR (F := fun k => k = Y) ⟨(Sole.setCell W Y 1 v').below.os, (Sole.setCell W Y 1 v').below.tape, (Sole.setCell W Y 1 v').below.output, Nat.le_of_eq (Sole.setCell W Y 1 v').size.symm, fun k _ hk => (Sole.setCell W Y 1 v').other k hk⟩ ho fun k hk e => ?_
    have := (ho.lt k hk).1
    omega
  · exact (h.old.trans (hn.below.mono (by omega))).setCell (p := ⟨Y, 1, none⟩) (Nat.le_refl _) _
noncomputable def body_ltx : Code := (((Try.f11.body.map loopsOf).getD [])[0]?).getD .skip
set_option maxRecDepth 100000 in
set_option maxHeartbeats 4000000 in
theorem ltx_loop (c0 c2 c5 c6 c7 c8 c9 c10 c11 c12 c13 c14 c15 c16 c17 c18 c19 c20 c21 c22 c23 c24 c25 c26 c27 c28 c29 c30 c31 c32 c33 c34 : Value) (w1 : World) (A : Option Addr) (c X Y : Nat) (n : ByteArray) (ls : List Qu) (w : World) (hXY : Hid (X < Y)) (hx : Hid (Blk w1 X 24 [.string n, .slice A ls.length c])) (hr : Hid (RsLb w1 (.slice A ls.length c) ls)) (hlow : Hid (∀ g o, A = some ⟨g, o, none⟩ → 0 < ls.length → g < Y)) (hn : Hid (ls.length ≤ 8)) (h0 : Hid (∃ v, TxS w1 Y n [] v w)) {Q : Exit → Act → World → Prop}
    (HQ : Hid (∀ (u8 u9 u10 u11 u12 u13 u14 u15 u16 u17 u18 u19 u20 u21 u22 u23 u24 u25 u26 u27 u28 u29 u30 u31 u32 y v : Value) (w' : World), Hid (TxS w1 Y n (ls.map asQ) v w') → Q (.exit 0) ⟨List.toArray (c0 :: (.pointer (some ⟨X, 0, none⟩)) :: c2 :: (.pointer (some ⟨Y, 0, none⟩)) :: y :: c5 :: c6 :: c7 :: u8 :: u9 :: u10 :: u11 :: u12 :: u13 :: u14 :: u15 :: u16 :: u17 :: u18 :: u19 :: u20 :: u21 :: u22 :: u23 :: u24 :: u25 :: u26 :: u27 :: u28 :: u29 :: u30 :: u31 :: u32 :: c33 :: c34 :: []), []⟩ w')) :
    (Code.loop body_ltx).wp Try.prog Q ⟨List.toArray (c0 :: (.pointer (some ⟨X, 0, none⟩)) :: c2 :: (.pointer (some ⟨Y, 0, none⟩)) :: (.int .i64 0) :: c5 :: c6 :: c7 :: c8 :: c9 :: c10 :: c11 :: c12 :: c13 :: c14 :: c15 :: c16 :: c17 :: c18 :: c19 :: c20 :: c21 :: c22 :: c23 :: c24 :: c25 :: c26 :: c27 :: c28 :: c29 :: c30 :: c31 :: c32 :: c33 :: c34 :: []), []⟩ w := by
  obtain ⟨iq, hiq, hiqz, hiqs, hiqb⟩ := inf_of info_qu
  unfold body_ltx
  conv => arg 2; arg 1; whnf
  go_loopw [4] (fun y wx => ∃ (j : Nat) (v : Value), y = .int .i64 (j : Int) ∧ j ≤ ls.length ∧ TxS w1 Y n ((ls.take j).map asQ) v wx) (fun y _ => ls.length - (intOf y).toNat)
  case atStart =>
    obtain ⟨v, hv⟩ := h0.out
    exact ⟨0, v, rfl, Nat.zero_le _, hv⟩
  case round =>
    obtain ⟨j, v, rfl, hj, htx⟩ := hrel
    have HTX := Lib.hid htx
    have hl := hn.out
    have hxw : Blk wr X 24 [.string n, .slice A ls.length c] := by
      have h2 := hx.out
      unfold Blk at h2 ⊢
      rw [htx.old.block X hXY.out]
      exact h2
    have b1 : wr.cell? ⟨X, 1, none⟩ = some (.slice A ls.length c) := by rw [hxw.cell]; rfl
    have pI : (ls.length : Int) ≤ 8 := by omega
    by_cases hlt : j < ls.length
    · have jI : (j : Int) < ls.length := by omega
      have HLT := Lib.hid hlt
      obtain ⟨q, hq⟩ : ∃ q, ls[j]? = some q := ⟨_, List.getElem?_eq_getElem hlt⟩
      obtain ⟨g, o, rfl⟩ := hr.out.addr hq
      have hgY := hlow.out g o rfl (by omega)
      obtain ⟨_, q0, q1⟩ := hr.out.cells hq
      obtain ⟨s, g0, u⟩ := q
      simp only at q0 q1
      obtain ⟨R, hR⟩ : ∃ R, R = (ls.take j).map asQ := ⟨_, rfl⟩
      have HRL : Hid (R.length = j) := Lib.hid (by rw [hR, List.length_map, List.length_take]; omega)
      have HR1 : Hid ((ls.take (j + 1)).map asQ = R ++ [[.string s, .int .i64 0, .string u]]) := Lib.hid (by
        obtain ⟨hj2, e2⟩ := List.getElem?_eq_some_iff.1 hq
        rw [hR, List.take_succ_eq_append_getElem hj2, e2, List.map_append]
        rfl)
      rw [← hR] at HTX
      have HS : Hid (∀ V, Below Y w1 V → V.cell? ⟨X, 1, none⟩ = some (.slice (some ⟨g, o, none⟩) ls.length c) ∧ V.cell? ⟨g, o + j * 2, none⟩ = some (.string s) ∧ V.cell? ⟨g, o + j * 2 + 1, none⟩ = some (.string u)) := Lib.hid fun V hb => ⟨by rw [hb.cell (p := ⟨X, 1, none⟩) hXY.out, hx.out.cell]; rfl, by rw [hb.cell (p := ⟨g, o + j * 2, none⟩) hgY]; exact q0, by rw [hb.cell (p := ⟨g, o + j * 2 + 1, none⟩) hgY]; exact q1⟩
      have HO1 : Hid (OwnR 3 wr.drew (Y + 1) 41 v R) := Lib.hid ((Chg.drewN _ (Chg.refl (fun _ => False) wr) 1).ownR HTX.out.own fun k _ => id)
      have HYS : Hid (Y < wr.heap.size) := Lib.hid HTX.out.blk.lt
      have HB0 : Hid (Below Y w1 wr.drew) := Lib.hid HTX.out.old.drew
      have HBS : Hid (Y + 1 ≤ wr.drew.heap.size) := Lib.hid HYS.out
      have HN1 : Hid (R.length + 1 ≤ maxLen) := Lib.hid (by rw [HRL.out]; unfold maxLen; omega)
      have HN2 : Hid ((R.length + 1) * 40 ≤ 140737488355328) := Lib.hid (by rw [HRL.out]; omega)
      have HL1 : Hid (([.string s, .int .i64 0, .string u] : List Value).length = 3) := Lib.hid rfl
      have HTD : Hid (TxS w1 Y n R v wr.drew) := Lib.hid ⟨HTX.out.blk.drewN 1, HO1.out, HB0.out⟩
      have y1 : wr.drew.cell? ⟨Y, 1, none⟩ = some v := by rw [HTD.out.blk.cell]; rfl
      have y2 : (wr.drew.alloc (.cells #[.string s, .int .i64 0, .string u] 41)).cell? ⟨Y, 1, none⟩ = some v := by
        rw [((Below.refl _ _).alloc (Nat.le_refl _) _ : Below wr.drew.heap.size wr.drew _).cell (p := ⟨Y, 1, none⟩) HYS.out]
        exact y1
      have y4 : (wr.alloc (.cells #[.string s, .int .i64 0, .string u] 41)).cell? ⟨Y, 1, none⟩ = some v := y2
      clear hR hq q0 q1 hgY hxw hl hj hlt htx
      go_wp2_with (fail)
      refine wp_region_noPanic ?_
      refine wp_region_held_drew (S := fun V => V.cell? ⟨X, 1, none⟩ = some (.slice (some ⟨g, o, none⟩) ls.length c) ∧ V.cell? ⟨g, o + j * 2, none⟩ = some (.string s) ∧ V.cell? ⟨g, o + j * 2 + 1, none⟩ = some (.string u)) (by kernel_rfl) (HS.out _ HB0.out) (fun hHeld => ?_)
      refine take_put (i := 0) (oi := _) (v := ?_) 15 rfl rfl (by kernel_rfl) (by kernel_rfl) (by kernel_rfl) (fun _ _ _ h => h) (Or.inl ⟨by rfl, ?hy0⟩) (by assumption) ?_
      case hy0 => ((intro W hSw); (try dsimp only at hSw); go_simp; try (with_reducible rfl))
      simp only [List.set_cons_zero, List.set_cons_succ]
      refine take_put (i := 2) (oi := _) (v := ?_) 17 rfl rfl (by kernel_rfl) (by kernel_rfl) (by kernel_rfl) (fun _ _ _ h => h) (Or.inl ⟨by rfl, ?hy2⟩) (by assumption) ?_
      case hy2 => ((intro W hSw); (try dsimp only at hSw); go_simp; try (with_reducible rfl))
      simp only [List.set_cons_zero, List.set_cons_succ]
      refine take_put (i := 3) (oi := _) (v := ?_) 18 rfl rfl (by kernel_rfl) (by kernel_rfl) (by kernel_rfl) (fun _ _ _ h => h) (Or.inl ⟨by rfl, ?hy3⟩) (by assumption) ?_
      case hy3 => ((intro W hSw); (try dsimp only at hSw); go_simp; try (with_reducible rfl))
      simp only [List.set_cons_zero, List.set_cons_succ]
      refine take_put (i := 4) (oi := _) (v := ?_) 19 rfl rfl (by kernel_rfl) (by kernel_rfl) (by kernel_rfl) (fun _ _ _ h => h) (Or.inl ⟨by rfl, ?hy4⟩) (by assumption) ?_
      case hy4 => ((intro W hSw); (try dsimp only at hSw); go_simp; try (with_reducible rfl))
      simp only [List.set_cons_zero, List.set_cons_succ]
      refine take_put (i := 5) (oi := _) (v := ?_) 20 rfl rfl (by kernel_rfl) (by kernel_rfl) (by kernel_rfl) (fun _ _ _ h => h) (Or.inl ⟨by rfl, ?hy5⟩) (by assumption) ?_
      case hy5 => ((intro W hSw); (try dsimp only at hSw); go_simp; try (with_reducible rfl))
      simp only [List.set_cons_zero, List.set_cons_succ]
      refine take_put (i := 6) (oi := _) (v := ?_) 21 rfl rfl (by kernel_rfl) (by kernel_rfl) (by kernel_rfl) (fun _ _ _ h => h) (Or.inl ⟨by rfl, ?hy6⟩) (by assumption) ?_
      case hy6 => ((intro W hSw); (try dsimp only at hSw); go_simp; try (with_reducible rfl))
      simp only [List.set_cons_zero, List.set_cons_succ]
      refine take_put (i := 7) (oi := _) (v := ?_) 22 rfl rfl (by kernel_rfl) (by kernel_rfl) (by kernel_rfl) (fun _ _ _ h => h) (Or.inl ⟨by rfl, ?hy7⟩) (by assumption) ?_
      case hy7 => ((intro W hSw); (try dsimp only at hSw); go_simp; try (with_reducible rfl))
      simp only [List.set_cons_zero, List.set_cons_succ]
      refine take_put (i := 8) (oi := _) (v := ?_) 23 rfl rfl (by kernel_rfl) (by kernel_rfl) (by kernel_rfl) (fun _ _ _ h => h) (Or.inl ⟨by rfl, ?hy8⟩) (by assumption) ?_
      case hy8 => ((intro W hSw); (try dsimp only at hSw); go_simp; try (with_reducible rfl))
      simp only [List.set_cons_zero, List.set_cons_succ]
      refine take_put (i := 9) (oi := _) (v := ?_) 24 rfl rfl (by kernel_rfl) (by kernel_rfl) (by kernel_rfl) (fun _ _ _ h => h) (Or.inl ⟨by rfl, ?hy9⟩) (by assumption) ?_
      case hy9 => ((intro W hSw); (try dsimp only at hSw); go_simp; try (with_reducible rfl))
      simp only [List.set_cons_zero, List.set_cons_succ]
      refine take_put (i := 10) (oi := _) (v := ?_) 25 rfl rfl (by kernel_rfl) (by kernel_rfl) (by kernel_rfl) (fun _ _ _ h => h) (Or.inl ⟨by rfl, ?hy10⟩) (by assumption) ?_
      case hy10 => ((intro W hSw); (try dsimp only at hSw); go_simp; try (with_reducible rfl))
      simp only [List.set_cons_zero, List.set_cons_succ]
      refine take_put (i := 11) (oi := _) (v := ?_) 26 rfl rfl (by kernel_rfl) (by kernel_rfl) (by kernel_rfl) (fun _ _ _ h => h) (Or.inl ⟨by rfl, ?hy11⟩) (by assumption) ?_
      case hy11 => ((intro W hSw); (try dsimp only at hSw); go_simp; try (with_reducible rfl))
      simp only [List.set_cons_zero, List.set_cons_succ]
      refine take_put (i := 12) (oi := _) (v := ?_) 27 rfl rfl (by kernel_rfl) (by kernel_rfl) (by kernel_rfl) (fun _ _ _ h => h) (Or.inl ⟨by rfl, ?hy12⟩) (by assumption) ?_
      case hy12 => ((intro W hSw); (try dsimp only at hSw); go_simp; try (with_reducible rfl))
      simp only [List.set_cons_zero, List.set_cons_succ]
      refine take_put (i := 13) (oi := _) (v := ?_) 28 rfl rfl (by kernel_rfl) (by kernel_rfl) (by kernel_rfl) (fun _ _ _ h => h) (Or.inl ⟨by rfl, ?hy13⟩) (by assumption) ?_
      case hy13 => ((intro W hSw); (try dsimp only at hSw); go_simp; try (with_reducible rfl))
      simp only [List.set_cons_zero, List.set_cons_succ]
      refine take_put (i := 14) (oi := _) (v := ?_) 29 rfl rfl (by kernel_rfl) (by kernel_rfl) (by kernel_rfl) (fun _ _ _ h => h) (Or.inl ⟨by rfl, ?hy14⟩) (by assumption) ?_
      case hy14 => ((intro W hSw); (try dsimp only at hSw); go_simp; try (with_reducible rfl))
      simp only [List.set_cons_zero, List.set_cons_succ]
      refine wpAnyH_ready (rs := [1, 15]) (by kernel_rfl) (by simp) ?_
      refine AllReadyH.cons (o := _) rfl (fun K hK => ?_) (AllReadyH.cons (o := _) rfl (fun K hK => ?_) AllReadyH.nil)
      rotate_left
      case' refine_2 =>
        go_simp
        refine hK.out _ _ (HS.out _ ((HB0.out).alloc (Nat.le_of_lt HYS.out) _)) (fun hHeld => ?_)
        clear hK K
        try simp only [Act.put, List.setIfInBounds_toArray, List.set_cons_zero, List.set_cons_succ]
        refine wpAnyH_ready (rs := [1]) (by kernel_rfl) (by simp) ?_
        refine AllReadyH.cons (o := _) rfl (fun K hK => ?_) AllReadyH.nil
        go_simp
        refine hK.out _ _ (HS.out _ ((HB0.out).alloc (Nat.le_of_lt HYS.out) _)) (fun hHeld => ?_)
        clear hK K
        try simp only [Act.put, List.setIfInBounds_toArray, List.set_cons_zero, List.set_cons_succ]
        refine wpAnyH_ready (rs := [16]) (by kernel_rfl) (by simp) ?_
        refine AllReadyH.cons (o := _) rfl (fun K hK => ?_) AllReadyH.nil
        refine step_append_elR wr.drew [.string s, .int .i64 0, .string u] _ rfl 31 rfl _ _ _ rfl (Y + 1) 41 iq _ 3 40 Try.underlying26 hiq hiqz hiqs hiqb rfl (by decide) v R rfl HO1.out rfl (by intro u hu; simp only [List.mem_cons, List.not_mem_nil, or_false] at hu; rcases hu with rfl | rfl | rfl <;> rfl) rfl HN1.out HN2.out HBS.out ?_
        intro v2 w2 own2 nx2
        obtain ⟨A2, c2, rfl, _⟩ := own2.form
        have hlen : (R ++ [[Value.string s, .int .i64 0, .string u]]).length = R.length + 1 := by simp
        rw [hlen] at own2 nx2
        have HT2 := Lib.hid (HTD.out.next own2 nx2)
        have y3 : w2.cell? ⟨Y, 1, none⟩ = some v := by rw [nx2.below.cell (p := ⟨Y, 1, none⟩) (Nat.lt_succ_self _)]; exact y1
        have f3 : w2.frozen? ⟨Y, 1, none⟩ = false := by
          have h2 := HTD.out.blk
          have h3 : Blk w2 Y 28 [.string n, v] := by
            unfold Blk at h2 ⊢
            rw [nx2.below.block Y (Nat.lt_succ_self _)]
            exact h2
          exact h3.free 1
        refine hK.out _ _ (HS.out _ (HB0.out.trans (nx2.below.mono (Nat.le_succ _)))) (fun hHeld => ?_)
        clear hK K own2 nx2
        try simp only [List.setIfInBounds_toArray, List.set_cons_zero, List.set_cons_succ]
        refine take_put (i := 17) (oi := _) (v := ?_) 32 rfl rfl (by kernel_rfl) (by kernel_rfl) (by kernel_rfl) (fun _ _ _ h => h) (Or.inl ⟨by rfl, ?hy17⟩) (by assumption) ?_
        case hy17 => ((intro W hSw); (try dsimp only at hSw); go_simp; try (with_reducible rfl))
        simp only [List.set_cons_zero, List.set_cons_succ]
        refine wpAnyH_ready (rs := [18]) (by kernel_rfl) (by simp) ?_
        refine AllReadyH.cons (o := _) rfl (fun K hK => ?_) AllReadyH.nil
        go_simp
        refine hK.out _ _ (HS.out _ HT2.out.old) (fun hHeld => ?_)
        clear hK K
        try simp only [Act.put, List.setIfInBounds_toArray, List.set_cons_zero, List.set_cons_succ]
        refine wpAnyH_done (by kernel_rfl) ?_ _
        refine NoPanic.normal ?_
        go_wp2_with (fail)
        have h5 := HT2.out
        rw [← HR1.out] at h5
        refine ⟨⟨j + 1, _, by go_num, HLT.out, h5⟩, by simp [intOf]; omega⟩
      case' refine_1 =>
        go_simp
        refine hK.out _ _ (HS.out _ HB0.out) (fun hHeld => ?_)
        clear hK K
        try simp only [Act.put, List.setIfInBounds_toArray, List.set_cons_zero, List.set_cons_succ]
        refine wpAnyH_ready (rs := [15]) (by kernel_rfl) (by simp) ?_
        refine AllReadyH.cons (o := _) rfl (fun K hK => ?_) AllReadyH.nil
        go_simp
        refine hK.out _ _ (HS.out _ ((HB0.out).alloc (Nat.le_of_lt HYS.out) _)) (fun hHeld => ?_)
        clear hK K
        try simp only [Act.put, List.setIfInBounds_toArray, List.set_cons_zero, List.set_cons_succ]
        refine wpAnyH_ready (rs := [16]) (by kernel_rfl) (by simp) ?_
        refine AllReadyH.cons (o := _) rfl (fun K hK => ?_) AllReadyH.nil
        refine step_append_elR wr.drew [.string s, .int .i64 0, .string u] _ rfl 31 rfl _ _ _ rfl (Y + 1) 41 iq _ 3 40 Try.underlying26 hiq hiqz hiqs hiqb rfl (by decide) v R rfl HO1.out rfl (by intro u hu; simp only [List.mem_cons, List.not_mem_nil, or_false] at hu; rcases hu with rfl | rfl | rfl <;> rfl) rfl HN1.out HN2.out HBS.out ?_
        intro v2 w2 own2 nx2
        obtain ⟨A2, c2, rfl, _⟩ := own2.form
        have hlen : (R ++ [[Value.string s, .int .i64 0, .string u]]).length = R.length + 1 := by simp
        rw [hlen] at own2 nx2
        have HT2 := Lib.hid (HTD.out.next own2 nx2)
        have y3 : w2.cell? ⟨Y, 1, none⟩ = some v := by rw [nx2.below.cell (p := ⟨Y, 1, none⟩) (Nat.lt_succ_self _)]; exact y1
        have f3 : w2.frozen? ⟨Y, 1, none⟩ = false := by
          have h2 := HTD.out.blk
          have h3 : Blk w2 Y 28 [.string n, v] := by
            unfold Blk at h2 ⊢
            rw [nx2.below.block Y (Nat.lt_succ_self _)]
            exact h2
          exact h3.free 1
        refine hK.out _ _ (HS.out _ (HB0.out.trans (nx2.below.mono (Nat.le_succ _)))) (fun hHeld => ?_)
        clear hK K own2 nx2
        try simp only [List.setIfInBounds_toArray, List.set_cons_zero, List.set_cons_succ]
        refine take_put (i := 17) (oi := _) (v := ?_) 32 rfl rfl (by kernel_rfl) (by kernel_rfl) (by kernel_rfl) (fun _ _ _ h => h) (Or.inl ⟨by rfl, ?hy17⟩) (by assumption) ?_
        case hy17 => ((intro W hSw); (try dsimp only at hSw); go_simp; try (with_reducible rfl))
        simp only [List.set_cons_zero, List.set_cons_succ]
        refine wpAnyH_ready (rs := [18]) (by kernel_rfl) (by simp) ?_
        refine AllReadyH.cons (o := _) rfl (fun K hK => ?_) AllReadyH.nil
        go_simp
        refine hK.out _ _ (HS.out _ HT2.out.old) (fun hHeld => ?_)
        clear hK K
        try simp only [Act.put, List.setIfInBounds_toArray, List.set_cons_zero, List.set_cons_succ]
        refine wpAnyH_done (by kernel_rfl) ?_ _
        refine NoPanic.normal ?_
        go_wp2_with (fail)
        have h5 := HT2.out
        rw [← HR1.out] at h5
        refine ⟨⟨j + 1, _, by go_num, HLT.out, h5⟩, by simp [intOf]; omega⟩
    · have k1 : decide ((j : Int) < ls.length) = false := decide_eq_false (by omega)
      have k2 : decide (j < ls.length) = false := decide_eq_false hlt
      have HF : Hid (TxS w1 Y n (ls.map asQ) v wr) := Lib.hid (by
        have e : (ls.take j).map asQ = ls.map asQ := by rw [List.take_of_length_le (by omega)]
        rw [← e]
        exact htx)
      clear hxw hl hj hlt htx
      go_wp2_with (fail)
      exact HQ.out _ _ _ _ _ _ _ _ _ _ _ _ _ _ _ _ _ _ _ _ _ _ _ _ _ _ _ _ HF
end Go.Proofs.Ytckgpocfcanokaa
