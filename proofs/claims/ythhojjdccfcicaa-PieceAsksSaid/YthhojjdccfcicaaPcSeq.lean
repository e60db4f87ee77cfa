/- slices.AppendSeq at pieces: one round of its loop. Conditions: pieces; at most a million of them. -/
import Derived.Test.YthhojjdccfcicaaPcVal
import Derived.Test.YthhojjdccfcicaaPcApp
namespace Go.Proofs.Ythhojjdccfcicaa
open Go.RowKit

theorem infoP : (Try.prog.info? 27).map (fun i => (i.zero, i.size, i.bytes)) = some (some (.agg #[.string ByteArray.empty, .int .i64 0, .int .i64 0, .int .u64 0, .int .u16 0]), 5, 48) := by kernel_rfl
def sqAssign : Code := (Code.region 2
  #[{ dst := some 5, op := Op.alloc 27, type := 0, pos := "iter.go:51", after := #[], guard := none },
    { dst := none, op := Op.store 27 (Operand.tmp 5) (Operand.tmp 7), type := 0, pos := "iter.go:51", after := #[{ on := 0, ground := Ground.data }, { on := 0, ground := Ground.phase }], guard := none }]
  false)
def sqBody : Code := (Code.block 1
  (Code.region 3
    #[{ dst := some 8, op := Op.load 34 (Operand.tmp 2), type := 34, pos := "iter.go:52", after := #[], guard := none },
      { dst := some 9, op := Op.load 27 (Operand.tmp 5), type := 27, pos := "iter.go:52", after := #[], guard := none },
      { dst := some 10, op := Op.buildSlice 34 1 #[(0, Operand.tmp 9)], type := 34, pos := "iter.go:52", after := #[{ on := 1, ground := Ground.data }], guard := none },
      { dst := some 11, op := Op.call { callee := Callee.builtin Builtin.append, args := #[Operand.tmp 8, Operand.tmp 10], argTypes := #[34, 34] }, type := 34, pos := "iter.go:52",
        after := #[{ on := 0, ground := Ground.data }, { on := 2, ground := Ground.data }], guard := none },
      { dst := none, op := Op.store 34 (Operand.tmp 2) (Operand.tmp 11), type := 0, pos := "iter.go:52",
        after := #[{ on := 3, ground := Ground.data }, { on := 3, ground := Ground.chain }, { on := 0, ground := Ground.phase }, { on := 1, ground := Ground.phase }, { on := 2, ground := Ground.phase }, { on := 3, ground := Ground.phase }], guard := none }]
    false))
/-- The loop's record. -/
def sqRec (fn : FuncId) (sv : Value) (Bs D : Nat) (st : LoopState) (pend : Option Code) : Loop :=
  { state := st, pending := pend, fn, tmps := #[.slice none 0 0, sv, .pointer (some ⟨Bs, 0, none⟩), undef, .slice none 0 0, undef, sv, undef, undef, undef, undef, undef, undef], params := #[7], assign := sqAssign, body := sqBody, defers := D }
/-- Between two rounds. -/
structure SqAt (w0 : World) (fn : FuncId) (sv : Value) (Bs l D : Nat) (ss : List PcO) (W : World) : Prop where
  box : ∃ v, W.heap[Bs]? = some (.cells #[v] 34 (0, 0)) ∧ OwnR 5 W w0.heap.size 27 v (ss.map encP)
  L : W.heap[l]? = some (.loop (sqRec fn sv Bs D .ready none))
  K : W.heap[D]? = some (.deferred (some []))
  below : Below w0.heap.size w0 W
theorem sq_abides (w0 : World) (fn : FuncId) (sv : Value) (Bs l D B : Nat) (hB : w0.heap.size ≤ B) : AbidesFrom B (SqAt w0 fn sv Bs l D) := fun s W W' row h hg hrow => by
  have hrow' : ∀ r, row = some r → ∃ o : Obj, W.heap[r]? = some o ∧ o.isWalk = true := fun r e => (hrow r e).2
  obtain ⟨v, hv, h5, hr⟩ := h.box
  exact ⟨⟨v, (grownBy_keeps hg hrow' hv rfl).trans hv, h5, ownsRow_abides_a hr hg hrow'⟩, (grownBy_keeps hg hrow' h.L rfl).trans h.L, (grownBy_keeps hg hrow' h.K rfl).trans h.K,
    h.below.grown hg h.below.size (fun k e => Nat.le_trans hB (hrow k e).1)⟩
theorem cells_newP (W : World) (cs : List Value) (t : TypeId) : ∀ j u, cs[j]? = some u → (W.alloc (.cells cs.toArray t)).cell? ((⟨W.heap.size, 0, none⟩ : Addr).add j) = some u := fun j u h => by
  have e : (⟨W.heap.size, 0, none⟩ : Addr).add j = ⟨W.heap.size, j, none⟩ := by
    by_cases h0 : j = 0
    · subst h0; rfl
    · simp [Addr.add, h0]
  rw [e, (Blk.made W t cs).cell, h]
theorem encP_one (x : PcO) : ∀ u ∈ encP x, u.oneCell' = true := fun u hu => by
  unfold encP Pc.vs at hu
  simp only [List.mem_cons, List.not_mem_nil, or_false] at hu
  rcases hu with rfl | rfl | rfl | rfl | rfl <;> rfl
theorem flat_len (ss : List PcO) : (ss.map encP).flatten.length = ss.length * 5 := by
  induction ss with
  | nil => rfl
  | cons x ss ih =>
    rw [List.map_cons, List.flatten_cons, List.length_append, ih, encP_len, List.length_cons]
    omega
theorem sq_other {W W' : World} {base : Nat} {v : Value} {n : Nat} {xs : List Value} {j : Nat} {o : Obj} (h : W.ownsRow base 27 5 v n xs) (hg : W.grownBy W' (some j)) (hj : W.heap[j]? = some o) (hno : ∀ cur, o ≠ .cells cur 27 (0, 0)) : W'.ownsRow base 27 5 v n xs := h.kept hg (ownsRow_ne_a h hj hno)
set_option maxRecDepth 100000 in
set_option maxHeartbeats 4000000 in
theorem sqYield (F : Fence) (m : Nat) (w0 : World) (fn : FuncId) (hfn : F.fn fn) (sv : Value) (Bs l D : Nat) (hBl : Bs ≠ l) (hDl : D ≠ l) (hDB : D ≠ Bs) (h0B : w0.heap.size ≤ Bs) (h0l : w0.heap.size ≤ l)
    (N : Nat) (hN : N ≤ 1000000) (ss : List PcO) (x : PcO) (W : World) (h : SqAt w0 fn sv Bs l D ss W) (hlen : ss.length < N) :
    YieldAt F m Try.prog l #[pcV x] W fun e W' => e = .returned (.bool true) ∧ SqAt w0 fn sv Bs l D (ss ++ [x]) W' ∧ KeepsWalks W W' := by
  obtain ⟨i0, hi, hz0, hz1, hz2⟩ := info_parts infoP
  have hne : 34 ≠ 27 := by decide
  obtain ⟨v, hv, hrw, hrow⟩ := h.box
  refine ⟨fn, #[.slice none 0 0, sv, .pointer (some ⟨Bs, 0, none⟩), undef, .slice none 0 0, undef, sv, pcV x, undef, undef, undef, undef, undef], sqAssign, sqBody, by simpa [sqRec] using run_yield (P := Try.prog) (args := #[pcV x]) h.L rfl, roundIn_of_wpIn hfn ?_⟩
  obtain ⟨p, hp⟩ : ∃ p, p = x.1 := ⟨_, rfl⟩
  have hpv : pcV x = .agg #[.string p.s, .int .i64 p.t, .int .i64 p.v, .int .u64 (p.n : Int), .int .u16 (p.o : Int)] := by rw [hp]; rfl
  have hpe : encP x = [.string p.s, .int .i64 p.t, .int .i64 p.v, .int .u64 (p.n : Int), .int .u16 (p.o : Int)] := by rw [hp]; rfl
  have HPE := Lib.hid hpe
  rw [hpv]
  have hlen5 := flat_len ss
  have hll : (ss.map encP).length = ss.length := List.length_map _
  rw [hll] at hrow
  obtain ⟨R, hR⟩ : ∃ R, R = (ss.map encP).flatten := ⟨_, rfl⟩
  have HRR := Lib.hid hR
  rw [← hR] at hrow
  clear hp hpv hpe hll hlen5 hR
  have hl : l < W.heap.size := (Array.getElem?_eq_some_iff.1 h.L).1
  have hBs : Bs < W.heap.size := (Array.getElem?_eq_some_iff.1 hv).1
  have hDs : D < W.heap.size := (Array.getElem?_eq_some_iff.1 h.K).1
  obtain ⟨WA, hWA⟩ : ∃ V, V = W.alloc (.cells #[.string p.s, .int .i64 p.t, .int .i64 p.v, .int .u64 (p.n : Int), .int .u16 (p.o : Int)] 27) := ⟨_, rfl⟩
  have hLA : WA.heap[l]? = some (.loop (sqRec fn sv Bs D .ready none)) := by rw [hWA]; exact (Below.heap_alloc _ _ l hl).trans h.L
  have hvA : WA.heap[Bs]? = some (.cells #[v] 34 (0, 0)) := by rw [hWA]; exact (Below.heap_alloc _ _ Bs hBs).trans hv
  have hKA : WA.heap[D]? = some (.deferred (some [])) := by rw [hWA]; exact (Below.heap_alloc _ _ D hDs).trans h.K
  have hPA : Blk WA W.heap.size 27 [.string p.s, .int .i64 p.t, .int .i64 p.v, .int .u64 (p.n : Int), .int .u16 (p.o : Int)] := by rw [hWA]; exact Blk.made W _ _
  have hgA : W.grownBy WA none := by rw [hWA]; exact ⟨rfl, rfl, rfl, by simp, fun k hk _ => Below.heap_alloc _ _ k hk⟩
  have hrowA : WA.ownsRow w0.heap.size 27 5 v ss.length R := by rw [hWA]; exact hrow.alloc _
  have hkA : KeepsWalks W WA := by rw [hWA]; exact KeepsWalks.alloc _ _
  have hbA : Below w0.heap.size w0 WA := by rw [hWA]; exact h.below.alloc h.below.size _
  have hszA : WA.heap.size = W.heap.size + 1 := by rw [hWA]; simp
  have hbr := run_beginRound (P := Try.prog) hLA rfl
  obtain ⟨W2, hW2⟩ : ∃ W2, WA.putObj l (.loop { sqRec fn sv Bs D .ready none with state := .busy }) = W2 := ⟨_, rfl⟩
  rw [hW2] at hbr
  have hg2 : WA.grownBy W2 (some l) := by rw [← hW2]; exact grownBy_putObj_a _ _ _
  have hk2 : KeepsWalks WA W2 := by rw [← hW2]; exact KeepsWalks.putObj _ hLA rfl
  have hv2 : W2.heap[Bs]? = some (.cells #[v] 34 (0, 0)) := by rw [← hW2]; exact (World.putObj_heap_other hBl).trans hvA
  have hK2 : W2.heap[D]? = some (.deferred (some [])) := by rw [← hW2]; exact (World.putObj_heap_other hDl).trans hKA
  have hL2 : W2.heap[l]? = some (.loop { sqRec fn sv Bs D .ready none with state := .busy }) := by rw [← hW2]; exact World.putObj_heap_same (by omega)
  have hP2 : Blk W2 W.heap.size 27 [.string p.s, .int .i64 p.t, .int .i64 p.v, .int .u64 (p.n : Int), .int .u16 (p.o : Int)] := by rw [← hW2]; exact (World.putObj_heap_other (by omega)).trans hPA
  have hrow2 : W2.ownsRow w0.heap.size 27 5 v ss.length R := sq_other hrowA hg2 hLA (fun cur e => by cases e)
  have hb2 : Below w0.heap.size w0 W2 := hbA.grown hg2 hbA.size (fun k e => by cases e; exact h0l)
  have hs2 : W2.heap.size = W.heap.size + 1 := by rw [← hW2, World.putObj_size]; exact hszA
  have hkW2 : KeepsWalks W W2 := hkA.trans hk2
  obtain ⟨hc2, hf2⟩ := cell_of_box_a hv2
  have hl2 : l < W2.heap.size := by omega
  have hBlt : Bs < W2.heap.size := by omega
  have hDlt : D < W2.heap.size := by omega
  have c0 : W2.cell? ⟨W.heap.size, 0, none⟩ = some (.string p.s) := hP2.cell 0
  have c1 : W2.cell? ⟨W.heap.size, 1, none⟩ = some (.int .i64 p.t) := hP2.cell 1
  have c2 : W2.cell? ⟨W.heap.size, 2, none⟩ = some (.int .i64 p.v) := hP2.cell 2
  have c3 : W2.cell? ⟨W.heap.size, 3, none⟩ = some (.int .u64 (p.n : Int)) := hP2.cell 3
  have c4 : W2.cell? ⟨W.heap.size, 4, none⟩ = some (.int .u16 (p.o : Int)) := hP2.cell 4
  have ne_of : ∀ {j : Nat} {o : Obj}, W2.heap[j]? = some o → (∀ cur, o ≠ .cells cur 27 (0, 0)) → some j ≠ v.ownBlock := fun hj hno => by
    rcases ownsRow_ne_a hrow2 hj hno with e | e
    · rw [e]; simp
    · exact fun e' => e e'.symm
  have HS2 := Lib.hid hs2
  clear hs2
  unfold sqAssign
  gi_wp2_with gi_round_op_a
  rw [← hWA]
  refine ⟨W2, hbr, ?_⟩
  clear hWA hW2 hbr hPA hP2 hvA hKA hLA hgA hrowA hkA hbA hszA hg2 hk2
  unfold sqBody
  gi_wp2_with (first
    | (gi_at_builtin; refine wpListIn_append_own _ rfl _ _ 34 rfl w0.heap.size 27 i0 _ 5 48 Try.underlying34 hi hz0 hz1 hz2 rfl (by decide) _ _ _ rfl (hrow2.alloc _) ⟨W2.heap.size, 0, none⟩ 1 1 (encP x) rfl rfl (by rw [HPE.out]; exact cells_newP _ _ _) (encP_one x) (by unfold maxLen; omega) (by omega) (by have := hb2.size; simp; omega) ?_; intro v' w3 hown' hg3 _
       have hv3 : w3.heap[Bs]? = some (.cells #[v] 34 (0, 0)) := (hg3.block Bs (by simp; omega) (ne_of hv2 (fun cur e => by first | cases e | exact hne (Obj.cells.inj e).2.1))).trans ((Below.heap_alloc _ _ Bs hBlt).trans hv2)
       obtain ⟨hc3, hf3⟩ := cell_of_box_a hv3
       obtain ⟨g', cap', rfl⟩ : ∃ g' cap', v' = .slice (some ⟨g', 0, none⟩) (ss.length + 1) cap' := by
         rcases hown'.2 with ⟨_, h0⟩ | ⟨g', cap', _, e, _⟩
         · exact absurd h0 (by omega)
         · exact ⟨g', cap', e⟩
       go_frame)
    | gi_round_op_a)
  have hg3' : (W2.alloc (.cells #[.string p.s, .int .i64 p.t, .int .i64 p.v, .int .u64 (p.n : Int), .int .u16 (p.o : Int)] 27)).grownBy w3 v.ownBlock := hg3
  have hL3 : w3.heap[l]? = some (.loop { sqRec fn sv Bs D .ready none with state := .busy }) := (hg3'.block l (by simp; omega) (ne_of hL2 (fun cur e => by cases e))).trans ((Below.heap_alloc _ _ l hl2).trans hL2)
  have hK3 : w3.heap[D]? = some (.deferred (some [])) := (hg3'.block D (by simp; omega) (ne_of hK2 (fun cur e => by cases e))).trans ((Below.heap_alloc _ _ D hDlt).trans hK2)
  obtain ⟨w4, hw4⟩ : ∃ w4, w3.setCell ⟨Bs, 0, none⟩ (.slice (some ⟨g', 0, none⟩) (ss.length + 1) cap') = w4 := ⟨_, rfl⟩
  rw [hw4]
  have hg4 : w3.grownBy w4 (some Bs) := by rw [← hw4]; exact grownBy_setCell0_a _ _ _
  have hv4 : w4.heap[Bs]? = some (.cells #[.slice (some ⟨g', 0, none⟩) (ss.length + 1) cap'] 34 (0, 0)) := by rw [← hw4]; exact heap_setCell_box_a _ hv3
  have hL4 : w4.heap[l]? = some (.loop { sqRec fn sv Bs D .ready none with state := .busy }) := (hg4.block l (Array.getElem?_eq_some_iff.1 hL3).1 (fun e => hBl (by cases e; rfl))).trans hL3
  have hK4 : w4.heap[D]? = some (.deferred (some [])) := (hg4.block D (Array.getElem?_eq_some_iff.1 hK3).1 (fun e => hDB (by cases e; rfl))).trans hK3
  have hrow4 := sq_other hown' hg4 hv3 (fun cur e => by first | cases e | exact hne (Obj.cells.inj e).2.1)
  have hl4 : l < w4.heap.size := (Array.getElem?_eq_some_iff.1 hL4).1
  have hb3 : Below w0.heap.size w0 w3 := (hb2.alloc hb2.size _).grown hg3' (by have := hb2.size; simp; omega) (fun k e => (hrow2.lt k e).1)
  have hb4 : Below w0.heap.size w0 w4 := hb3.grown hg4 hb3.size (fun k e => by cases e; exact h0B)
  have hk4 : KeepsWalks W w4 := ((hkW2.trans (KeepsWalks.alloc _ _)).trans (KeepsWalks.of_grownBy hg3' (ownsRow_not_walk_a (hrow2.alloc _)))).trans (by rw [← hw4]; exact KeepsWalks.setCell _ _ _)
  clear hw4
  refine ⟨_, _, run_endRound none hL4, rfl, ⟨⟨_, (World.putObj_heap_other hBl).trans hv4, ?_, ?_⟩, World.putObj_heap_same hl4, (World.putObj_heap_other hDl).trans hK4, hb4.grown (grownBy_putObj_a _ _ _) hb4.size (fun k e => by cases e; exact h0l)⟩, hk4.trans (KeepsWalks.putObj _ hL4 rfl)⟩
  · intro r hr
    rw [List.map_append, List.mem_append] at hr
    rcases hr with hr | hr
    · exact hrw r hr
    · rw [List.map_cons, List.map_nil, List.mem_singleton] at hr
      rw [hr]
      rfl
  · have h5 := sq_other hrow4 (grownBy_putObj_a w4 l (.loop { { sqRec fn sv Bs D .ready none with state := .busy } with state := if (none : Option Code).isNone then .ready else .done, pending := none })) hL4 (fun cur e => by cases e)
    rw [HRR.out] at h5
    rw [List.length_map, List.length_append, List.map_append, List.flatten_append]
    simpa using h5
end Go.Proofs.Ythhojjdccfcicaa
