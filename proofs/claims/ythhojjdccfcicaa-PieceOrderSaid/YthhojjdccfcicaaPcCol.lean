/- slices.AppendSeq, Collect, SortedFunc at pieces, over maps.Values of a map of pieces: its pieces, sorted. Conditions: at most a million of them. -/
import Derived.Test.YthhojjdccfcicaaPcSeq
import Derived.Test.YthhojjdccfcicaaPcSrt
import Derived.Test.YthhojjdccfcicaaCmpLaw
import Derived.RangeFuncBound
namespace Go.Proofs.Ythhojjdccfcicaa
open Go.RowKit Go.Sort Go.Shelf

set_option maxRecDepth 100000 in
set_option maxHeartbeats 4000000 in
theorem appendSeqP_in (F : Fence) (n : Nat) (h11 : F.fn 33) (hro : F.round = none) (hn : 2 ≤ n) (g : Nat) (lb : Array Value) (hFg : F.fn g) (eg : ∀ args w, (callFunc g args).run Try.prog w = .ok (.enter g args) w)
    (S : List PcO → Prop) (N : Nat) (hN : N ≤ 1000000) (w : World) (hseq : SeqGives F (n - 1) Try.prog g lb pcV S N w) :
    CallsIn F n Try.prog 33 #[.slice none 0 0, .func (.func g) #[] lb] w fun e w' => ∃ (v : Value) (ss : List PcO), e = .returned v ∧ S ss ∧ OwnR 5 w' w.heap.size 27 v (ss.map encP) ∧ Below w.heap.size w w' := by
  have h1 : 1 ≤ n := by omega
  have hne : 34 ≠ 27 := by decide
  refine callsIn_of_wp_marks Try.func33 rfl h11 ?_ hro
  simp only [Try.ntmps33, List.size_toArray, List.length_cons, List.length_nil, Nat.reduceAdd, Nat.reduceSub, Array.replicate_succ, Array.replicate_zero, List.push_toArray, List.append_toArray, List.nil_append, List.cons_append]
  gi_wp2
  refine wpIn_rangeFunc ?_
  intro fn hfn
  rw [hro]
  obtain ⟨W0, hW0⟩ : ∃ W0, w.alloc (.cells #[.slice none 0 0] 34) = W0 := ⟨_, rfl⟩
  have hs0 : W0.heap.size = w.heap.size + 1 := by rw [← hW0]; simp
  have hv0 : W0.heap[w.heap.size]? = some (.cells #[.slice none 0 0] 34 (0, 0)) := by rw [← hW0]; exact World.alloc_heap_new w _
  have hb0 : Below w.heap.size w W0 := by rw [← hW0]; exact (Below.refl _ w).alloc (Nat.le_refl _) _
  rw [hW0]
  obtain ⟨W1, hW1⟩ : ∃ W1, (W0.alloc (.deferred (some []))).alloc (.loop (sqRec fn (.func (.func g) #[] lb) w.heap.size W0.heap.size .ready none)) = W1 := ⟨_, rfl⟩
  have hold : ∀ k, k < W0.heap.size → W1.heap[k]? = W0.heap[k]? := fun k hk => by
    rw [← hW1]; exact (Below.heap_alloc _ _ k (by simp; omega)).trans (Below.heap_alloc _ _ k hk)
  have hb1 : Below w.heap.size w W1 := by rw [← hW1]; exact (hb0.alloc hb0.size _).alloc (by have := hb0.size; simp; omega) _
  have hs1 : W1.heap.size = W0.heap.size + 2 := by rw [← hW1]; simp
  have hM : SqAt w fn (.func (.func g) #[] lb) w.heap.size (W0.heap.size + 1) W0.heap.size [] W1 :=
    ⟨⟨_, (hold w.heap.size (by omega)).trans hv0, fun r hr => by simp at hr, ⟨rfl, .inl ⟨rfl, rfl⟩⟩⟩,
     by rw [← hW1]; have := World.alloc_heap_new (W0.alloc (.deferred (some []))) (.loop (sqRec fn (.func (.func g) #[] lb) w.heap.size W0.heap.size .ready none)); rwa [World.size_alloc] at this,
     by rw [← hW1]; exact (Below.heap_alloc _ _ _ (by simp)).trans (World.alloc_heap_new W0 _), hb1⟩
  refine ⟨W0.heap.size + 1, [{ target := .collected W0.heap.size, args := #[] }], W1, { target := .fn (.func g) lb, args := #[.func (.yield (W0.heap.size + 1)) #[] #[]] }, W1, g,
    #[.func (.yield (W0.heap.size + 1)) #[] #[]] ++ lb, W1, ?_, ?_, ?_, ?_, fun _ => h1, ?_⟩
  · rw [← hW1]; exact run_enterLoop_outer _ _ _ _ _
  · simp [resolve, go_sem]
  · intro f' hf'; simp [Target.leads] at hf'; subst hf'; exact hFg
  · simp [invoke, go_sem, eg]
  · refine (hseq (W0.heap.size + 1) (SqAt w fn (.func (.func g) #[] lb) w.heap.size (W0.heap.size + 1) W0.heap.size) W1 hb1 (sq_abides _ _ _ _ _ _ _ hb1.size)
      (fun pre x W hJ hl => sqYield F (n - 1 - 1) w fn hfn _ w.heap.size (W0.heap.size + 1) W0.heap.size (by omega) (by omega) (by omega) (Nat.le_refl _) (by omega) N hN pre x W hJ hl) hM).mono ?_
    rintro e W2 ⟨⟨v0, rfl⟩, ss, hS, h2⟩
    obtain ⟨v, hv, h5, hrow⟩ := h2.box
    have hend := run_endLoop (P := Try.prog) h2.L (by simp [sqRec])
    obtain ⟨W3, hW3⟩ : ∃ W3, W2.putObj (W0.heap.size + 1) (.loop { sqRec fn (.func (.func g) #[] lb) w.heap.size W0.heap.size .ready none with state := .exhausted }) = W3 := ⟨_, rfl⟩
    rw [hW3] at hend
    have hg3 : W2.grownBy W3 (some (W0.heap.size + 1)) := by rw [← hW3]; exact grownBy_putObj_a _ _ _
    have hv3 : W3.heap[w.heap.size]? = some (.cells #[v] 34 (0, 0)) := by rw [← hW3]; exact (World.putObj_heap_other (by omega)).trans hv
    have hK3 : W3.heap[W0.heap.size]? = some (.deferred (some [])) := by rw [← hW3]; exact (World.putObj_heap_other (by omega)).trans h2.K
    have hrow3 := sq_other hrow hg3 h2.L (fun cur e => by cases e)
    have hb3 : Below w.heap.size w W3 := h2.below.grown hg3 h2.below.size (fun k e => by cases e; omega)
    obtain ⟨hc3, hf3⟩ := cell_of_box_a hv3
    clear hW3
    refine ⟨none, W3, hend, ?_⟩
    gi_wp2
    rw [← hs0]
    refine ⟨by simp, .inl ⟨_, _, rfl, run_takeDeferred hK3, ?_⟩⟩
    exact ⟨_, results_tmp rfl _ _ _, v, ss, rfl, hS, ⟨h5, sq_other hrow3 (grownBy_putObj_a _ _ _) hK3 (fun cur e => by cases e)⟩, hb3.grown (grownBy_putObj_a _ _ _) hb3.size (fun k e => by cases e; omega)⟩
set_option maxHeartbeats 2000000 in
theorem collectP_in (F : Fence) (n : Nat) (h8 : F.fn 26) (h11 : F.fn 33) (hro : F.round = none) (hn : 3 ≤ n) (g : Nat) (lb : Array Value) (hFg : F.fn g) (eg : ∀ args w, (callFunc g args).run Try.prog w = .ok (.enter g args) w)
    (S : List PcO → Prop) (N : Nat) (hN : N ≤ 1000000) (w : World) (hseq : SeqGives F (n - 1 - 1) Try.prog g lb pcV S N w) :
    CallsIn F n Try.prog 26 #[.func (.func g) #[] lb] w fun e w' => ∃ (v : Value) (ss : List PcO), e = .returned v ∧ S ss ∧ OwnR 5 w' w.heap.size 27 v (ss.map encP) ∧ Below w.heap.size w w' := by
  have h1 : 1 ≤ n := by omega
  have e11 : ∀ args w, (callFunc 33 args).run Try.prog w = .ok (.enter 33 args) w := enters_of Try.func33 (by kernel_rfl) rfl
  refine callsIn_of_wp Try.func26 rfl h8 ?_ hro
  simp only [Try.ntmps26, List.size_toArray, List.length_cons, List.length_nil, Nat.reduceAdd, Nat.reduceSub, Array.replicate_succ, Array.replicate_zero, List.push_toArray, List.append_toArray, List.nil_append, List.cons_append]
  gi_wp2_with (gi_at_fn 33; refine (appendSeqP_in F (n - 1) h11 hro (by omega) g lb hFg eg S N hN _ hseq).mono ?_; rintro e w' ⟨v, ss, rfl, hS, hrow, hb⟩)
  go_ret
  exact ⟨v, ss, rfl, hS, hrow, hb⟩
theorem MapP.lt {w : World} {b n : Nat} {f : ByteArray × Int → Option PcO} (h : MapP w b n f) : b < w.heap.size := MapK.lt h
/-- maps.Values of a map of pieces gives its pieces. -/
theorem valuesP_gives {w : World} {b n : Nat} {f : ByteArray × Int → Option PcO} (h : MapP w b n f) :
    SeqGives Fence.wide 2 Try.prog 28 #[.pointer (some ⟨w.heap.size, 0, none⟩)] pcV (ValsOf f) n (w.alloc (.cells #[.map (some b)] 43)) := fun l J W hW hJ hY h0 => by
  have hbl := h.lt
  refine values1_in Fence.wide 2 trivial rfl (by omega) l w.heap.size b n f J hY W hJ ?_ ?_ h0
  · refine (hW.cell (p := ⟨w.heap.size, 0, none⟩) (by simp)).trans ?_
    rw [cell_of_row _ _ 0 _ 43 (0, 0) (heap_alloc_new _ _)]
    rfl
  · exact MapK.keep h ((hW.block b (by simp; omega)).trans (Below.heap_alloc _ _ b hbl))
theorem cmpP_any : CmpP 17 fun x y => cmpPc x.1 y.1 := fun x y W => (compPc x.1 y.1 W).mono fun _ _ h => ⟨h.1, h.2⟩
theorem swoP : SWO (ltOf fun x y : PcO => cmpPc x.1 y.1) := by
  have e : ∀ x y : PcO, ltOf (fun x y : PcO => cmpPc x.1 y.1) x y = lessP x.1 y.1 := fun x y => less_cmp x.1 y.1
  refine ⟨fun x => ?_, fun x y z => ?_, fun x y z => ?_⟩
  · rw [e]; exact less_swo.irrefl _
  · rw [e, e, e]; exact less_swo.trans _ _ _
  · rw [e, e, e]; exact less_swo.ntrans _ _ _
set_option maxRecDepth 100000 in
set_option maxHeartbeats 2000000 in
theorem sortedP_any {w : World} {b n : Nat} {f : ByteArray × Int → Option PcO} (h : MapP w b n f) (hn : n ≤ 1000000) :
    Calls Try.prog 19 #[.func (.func 28) #[] #[.pointer (some ⟨w.heap.size, 0, none⟩)], .func (.func 17) #[] #[]] (w.alloc (.cells #[.map (some b)] 43)) fun e w' =>
      ∃ (v : Value) (xs qs : List PcO), e = .returned v ∧ ValsOf f xs ∧ qs.Perm xs ∧ qs.Pairwise (fun a b => lessP b.1 a.1 = false) ∧ OwnR 5 w' (w.heap.size + 1) 27 v (qs.map encP) ∧ Below w.heap.size w w' := by
  have eg := enters_of Try.func28 (by kernel_rfl) rfl
  have ec := enters_of Try.func17 (by kernel_rfl) rfl
  have C1 := Lib.hid ((callsIn_wide (n := 4)).1 (collectP_in Fence.wide 4 trivial trivial rfl (by omega) _ _ trivial eg _ n hn _ (SeqGives.bounded (valuesP_gives h))))
  obtain ⟨W0, hW0⟩ : ∃ V, V = w.alloc (.cells #[.map (some b)] 43) := ⟨_, rfl⟩
  have hb0 : Below w.heap.size w W0 := by rw [hW0]; exact (Below.refl _ w).alloc (Nat.le_refl _) _
  have hs0 : W0.heap.size = w.heap.size + 1 := by rw [hW0]; simp
  rw [← hW0]
  rw [← hW0] at C1
  have HB0 := Lib.hid hb0
  have HS0 := Lib.hid hs0
  clear hW0 hb0 hs0
  go_enter Try.func19, Try.ntmps19
  go_wp2_with (fail)
  refine (C1.out).mono ?_
  rintro e w1 ⟨v, xs, rfl, ⟨hS, hxn⟩, hrow, hb⟩
  have HV := Lib.hid hS
  have HB := Lib.hid hb
  have hlen : xs.length < 4611686018427387904 := by omega
  have C2 := Lib.hid (sortP_any 17 ec (fun x y => cmpPc x.1 y.1) swoP cmpP_any hrow hlen)
  have HR := Lib.hid hrow
  clear hS hb hlen hrow hxn
  go_wp2_with (fail)
  refine (C2.out).mono ?_
  rintro e w2 ⟨rfl, qs, hp, hq, hr2, hc2⟩
  have HE : Hid (∃ (v' : Value) (xs qs : List PcO), Ending.returned v = .returned v' ∧ ValsOf f xs ∧ qs.Perm xs ∧ qs.Pairwise (fun a b => lessP b.1 a.1 = false) ∧ OwnR 5 w2 (w.heap.size + 1) 27 v' (qs.map encP) ∧ Below w.heap.size w w2) := Lib.hid (by
    refine ⟨v, xs, qs, rfl, HV.out, hp, hq.imp fun {a b} h => by rw [← less_cmp]; exact h, ?_, ?_⟩
    · rw [← HS0.out]
      exact hr2
    · have h1 := HB0.out.trans (HB.out.mono (by have := HS0.out; omega))
      refine h1.trans ⟨hc2.os, hc2.tape, hc2.output, hc2.size, fun k hk => hc2.keep k (Nat.lt_of_lt_of_le hk h1.size) fun hj => ?_⟩
      have h2 := (HR.out.lt k hj).1
      have := HS0.out
      omega)
  clear hp hq hr2 hc2
  go_wp2_with (fail)
  go_ret
  exact HE.out
end Go.Proofs.Ythhojjdccfcicaa
