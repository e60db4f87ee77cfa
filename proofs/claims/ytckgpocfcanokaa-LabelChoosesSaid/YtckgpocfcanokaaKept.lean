/- Laws of append onto a row of the call's own: what the row held lies in its elder block as it was. At a plain list, and at a step of a region that draws its order. No condition of its own. -/
import Derived.Test.YtckgpocfcanokaaMem
import Derived.Deep.RegionHeld3
namespace Go.Proofs.Ytckgpocfcanokaa
open Go.RowKit

theorem run_append_kept {P : Program} (w : World) (t ty : TypeId) (base : Nat) (e : TypeId) (i : TypeInfo) (z : Value) (size bytes : Nat) (ht : P.underlying t = some (.slice e)) (hi : P.info? e = some i) (hz : i.zero = some z)
    (hsize : i.size = size) (hby : i.bytes = bytes) (hzs : z.cells.size = size) (hsz : 0 < size)
    (v : Value) (n : Nat) (xs : List Value) (hown : w.ownsRow base e size v n xs)
    (ad : Addr) (m c : Nat) (news : List Value) (hl : news.length = m * size) (hnews : ∀ j u, news[j]? = some u → w.cell? (ad.add j) = some u) (h1 : ∀ u ∈ news, u.oneCell' = true)
    (h63 : n + m ≤ maxLen) (hbytes : (n + m) * bytes ≤ 140737488355328) (hbase : base ≤ w.heap.size) :
    ∃ v' w', (Builtin.append_ #[t, t] ty #[v, .slice (some ad) m c]).run P w = .ok v' w' ∧ w'.ownsRow base e size v' (n + m) (xs ++ news) ∧ w.grownBy w' v.ownBlock ∧
      (∀ g off, v.ownBlock = some g → off < n * size → w'.cell? ⟨g, off, none⟩ = w.cell? ⟨g, off, none⟩) := by
  obtain ⟨v', w', hr, h2, h3, _⟩ := run_append_own (P := P) w base t ty e i z size bytes ht hi hz hsize hby hzs hsz v n xs hown ad m c news hl hnews h1 h63 hbytes hbase
  refine ⟨v', w', hr, h2, h3, fun g off hg hoff => ?_⟩
  subst hsize hby
  have hown0 := hown
  rcases hown.2 with ⟨rfl, rfl⟩ | ⟨g0, cap, cur, rfl, hbg, hgh, hnc, hcm, hcs, htk⟩
  · simp at hoff
  · obtain rfl : g0 = g := by simpa [Value.ownBlock] using hg
    have hlt : g0 < w.heap.size := by
      rcases Nat.lt_or_ge g0 w.heap.size with h | h
      · exact h
      · rw [Array.getElem?_eq_none h] at hgh; cases hgh
    by_cases hroom : n + m ≤ cap
    · have hfit : n * i.size + news.length ≤ cur.size := by rw [hl, hcs, ← Nat.add_mul]; exact Nat.mul_le_mul_right _ hroom
      have hr2 := run_append_room (P := P) w t ty e i ht hi g0 n cap cur hgh ad m c news hl hnews h1 hroom hfit
      rw [hr2] at hr
      injection hr with e1 e2
      subst e1
      have hlt2 : off < (n + m) * i.size := by rw [Nat.add_mul]; omega
      rw [h2.cellAt off hlt2, hown0.cellAt off hoff, List.getElem?_append_left (by rw [hown0.1]; exact hoff)]
    · have holds : ∀ j u, xs[j]? = some u → w.cell? ((⟨g0, 0, none⟩ : Addr).add j) = some u := hown.cells (g := g0) rfl
      have hsmall : n + m ≤ 9223372036854775807 := by simp only [maxLen] at h63; omega
      have hr2 := run_append_grow (P := P) w t ty e i z ht hi hz ⟨g0, 0, none⟩ n cap xs hown.1 holds ad m c news hl hnews (by omega) (by omega) (growslice_fits (by omega) hbytes)
      rw [hr2] at hr
      injection hr with e1 e2
      subst e2
      exact World.cell?_alloc_lt w.drew _ _ hlt

/-- What is left of the elder world behind such an append: each block but the row, and what the row held. -/
structure Grew (w w' : World) (base : Nat) (v : Value) (n : Nat) : Prop where
  below : Below base w w'
  size : w.heap.size ≤ w'.heap.size
  other : ∀ p : Addr, p.block < w.heap.size → some p.block ≠ v.ownBlock → w'.cell? p = w.cell? p
  row : ∀ g off, v.ownBlock = some g → off < n → w'.cell? ⟨g, off, none⟩ = w.cell? ⟨g, off, none⟩

theorem wp_append_one_kept {P : Program} (w : World) (u : Value) (e0 : TypeId) {o : Oper} {a : Act} {K : Act → World → Prop} {Q : Exit → Act → World → Prop} (s x : Operand) (t : TypeId)
    (ho : o.op = .call { callee := .builtin .append, args := #[s, x], argTypes := #[t, t] })
    (base : Nat) (e : TypeId) (i : TypeInfo) (z : Value) (bytes : Nat) (ht : P.underlying t = some (.slice e)) (hi : P.info? e = some i) (hz : i.zero = some z)
    (hsize : i.size = 1) (hby : i.bytes = bytes) (hzs : z.cells.size = 1) (hu : u.oneCell' = true)
    (v : Value) (n : Nat) (xs : List Value) (hs : a.eval s = v) (hown : w.ownsRow base e 1 v n xs)
    (hx : a.eval x = .slice (some ⟨w.heap.size, 0, none⟩) 1 1)
    (h63 : n + 1 ≤ maxLen) (hb : (n + 1) * bytes ≤ 140737488355328) (hbase : base ≤ w.heap.size)
    (h : ∀ v' w', w'.ownsRow base e 1 v' (n + 1) (xs ++ [u]) → Grew w w' base v n → K (a.put o.dst v') w') : o.wp P a (w.alloc (.cells #[u] e0)) K Q := by
  obtain ⟨v', w', hr, h2, h3, h4⟩ := run_append_kept (P := P) (w.alloc (.cells #[u] e0)) t o.type base e i z 1 bytes ht hi hz hsize hby hzs (by omega) v n xs (hown.alloc _) ⟨w.heap.size, 0, none⟩ 1 1 [u] rfl (by
    intro j y hy
    have hj : j = 0 := by
      rcases Nat.eq_zero_or_pos j with h0 | h0
      · exact h0
      · rw [List.getElem?_eq_none (by simp; omega)] at hy; cases hy
    subst hj
    have hy' : u = y := by simpa using hy
    subst hy'
    simp [Addr.add]) (by simpa using hu) h63 hb (by simp; omega)
  unfold Oper.wp execOp
  simp only [ho, resolve, invoke, builtin, Sem.run_bind, Sem.run_pure, Result.andThen_ok, List.map_toArray, List.map_cons, List.map_nil, hs, hx, hr]
  refine h v' w' h2 ⟨((Below.refl _ _).alloc hbase _).grown h3 (by simp; omega) (fun k hk => (hown.lt k hk).1), ?_, fun p hp hne => ?_, fun g off hg hoff => ?_⟩
  · have := h3.size; simp at this; omega
  · rw [h3.cell_far p (by simp; omega) hne]
    exact World.cell?_alloc_lt w _ p hp
  · rw [h4 g off hg (by omega)]
    exact World.cell?_alloc_lt w _ _ ((hown.lt g hg).2)
theorem step_append_one_kept {P : Program} (w : World) (u : Value) (e0 : TypeId) {ops : Array Oper} {o : Oper} {a : Act} {K : Act → World → Prop} {Q : Exit → Act → World → Prop} {E : Prop} (hgd : o.guard = none) (s x : Operand) (t : TypeId)
    (ho : o.op = .call { callee := .builtin .append, args := #[s, x], argTypes := #[t, t] })
    (base : Nat) (e : TypeId) (i : TypeInfo) (z : Value) (bytes : Nat) (ht : P.underlying t = some (.slice e)) (hi : P.info? e = some i) (hz : i.zero = some z)
    (hsize : i.size = 1) (hby : i.bytes = bytes) (hzs : z.cells.size = 1) (hu : u.oneCell' = true)
    (v : Value) (n : Nat) (xs : List Value) (hs : a.eval s = v) (hown : w.ownsRow base e 1 v n xs)
    (hx : a.eval x = .slice (some ⟨w.heap.size, 0, none⟩) 1 1)
    (h63 : n + 1 ≤ maxLen) (hb : (n + 1) * bytes ≤ 140737488355328) (hbase : base ≤ w.heap.size)
    (h : ∀ v' w', w'.ownsRow base e 1 v' (n + 1) (xs ++ [u]) → Grew w w' base v n → K (a.put o.dst v') w') :
    if Region.wanted o (yielded ops a.tmps) = true then Oper.wp P o a (w.alloc (.cells #[u] e0)).drew K Q else E := by
  have hw : Region.wanted o (yielded ops a.tmps) = true := by simp [Region.wanted, hgd]
  rw [if_pos hw]
  show Oper.wp P o a ((w.drew).alloc (.cells #[u] e0)) K Q
  exact wp_append_one_kept w.drew u e0 s x t ho base e i z bytes ht hi hz hsize hby hzs hu v n xs hs hown hx h63 hb hbase fun v' w' k1 k2 => h v' w' k1 ⟨⟨k2.below.os, k2.below.tape, k2.below.output, k2.below.size, k2.below.block⟩, k2.size, k2.other, k2.row⟩
/-- The same for a row of elements written out, in a new block of their own. -/
theorem wp_append_lit_kept {P : Program} (w : World) (us : List Value) (e0 : TypeId) {o : Oper} {a : Act} {K : Act → World → Prop} {Q : Exit → Act → World → Prop} (s x : Operand) (t : TypeId)
    (ho : o.op = .call { callee := .builtin .append, args := #[s, x], argTypes := #[t, t] })
    (base : Nat) (e : TypeId) (i : TypeInfo) (z : Value) (bytes : Nat) (ht : P.underlying t = some (.slice e)) (hi : P.info? e = some i) (hz : i.zero = some z)
    (hsize : i.size = 1) (hby : i.bytes = bytes) (hzs : z.cells.size = 1) (hu : ∀ u ∈ us, u.oneCell' = true)
    (v : Value) (n m : Nat) (xs : List Value) (hs : a.eval s = v) (hown : w.ownsRow base e 1 v n xs) (hm : us.length = m)
    (hx : a.eval x = .slice (some ⟨w.heap.size, 0, none⟩) m m)
    (h63 : n + m ≤ maxLen) (hb : (n + m) * bytes ≤ 140737488355328) (hbase : base ≤ w.heap.size)
    (h : ∀ v' w', w'.ownsRow base e 1 v' (n + m) (xs ++ us) → Grew w w' base v n → K (a.put o.dst v') w') : o.wp P a (w.alloc (.cells us.toArray e0)) K Q := by
  obtain ⟨v', w', hr, h2, h3, h4⟩ := run_append_kept (P := P) (w.alloc (.cells us.toArray e0)) t o.type base e i z 1 bytes ht hi hz hsize hby hzs (by omega) v n xs (hown.alloc _) ⟨w.heap.size, 0, none⟩ m m us (by omega) (World.news_of_block (cs := us.toArray) (t := e0) (fr := (0, 0)) (heap_alloc_new w _)) hu h63 hb (by simp; omega)
  unfold Oper.wp execOp
  simp only [ho, resolve, invoke, builtin, Sem.run_bind, Sem.run_pure, Result.andThen_ok, List.map_toArray, List.map_cons, List.map_nil, hs, hx, hr]
  refine h v' w' h2 ⟨((Below.refl _ _).alloc hbase _).grown h3 (by simp; omega) (fun k hk => (hown.lt k hk).1), ?_, fun p hp hne => ?_, fun g off hg hoff => ?_⟩
  · have := h3.size; simp at this; omega
  · rw [h3.cell_far p (by simp; omega) hne]
    exact World.cell?_alloc_lt w _ p hp
  · rw [h4 g off hg (by omega)]
    exact World.cell?_alloc_lt w _ _ ((hown.lt g hg).2)
theorem step_append_lit_kept {P : Program} (w : World) (us : List Value) (e0 : TypeId) {ops : Array Oper} {o : Oper} {a : Act} {K : Act → World → Prop} {Q : Exit → Act → World → Prop} {E : Prop} (hgd : o.guard = none) (s x : Operand) (t : TypeId)
    (ho : o.op = .call { callee := .builtin .append, args := #[s, x], argTypes := #[t, t] })
    (base : Nat) (e : TypeId) (i : TypeInfo) (z : Value) (bytes : Nat) (ht : P.underlying t = some (.slice e)) (hi : P.info? e = some i) (hz : i.zero = some z)
    (hsize : i.size = 1) (hby : i.bytes = bytes) (hzs : z.cells.size = 1) (hu : ∀ u ∈ us, u.oneCell' = true)
    (v : Value) (n m : Nat) (xs : List Value) (hs : a.eval s = v) (hown : w.ownsRow base e 1 v n xs) (hm : us.length = m)
    (hx : a.eval x = .slice (some ⟨w.heap.size, 0, none⟩) m m)
    (h63 : n + m ≤ maxLen) (hb : (n + m) * bytes ≤ 140737488355328) (hbase : base ≤ w.heap.size)
    (h : ∀ v' w', w'.ownsRow base e 1 v' (n + m) (xs ++ us) → Grew w w' base v n → K (a.put o.dst v') w') :
    if Region.wanted o (yielded ops a.tmps) = true then Oper.wp P o a (w.alloc (.cells us.toArray e0)).drew K Q else E := by
  have hw : Region.wanted o (yielded ops a.tmps) = true := by simp [Region.wanted, hgd]
  rw [if_pos hw]
  show Oper.wp P o a ((w.drew).alloc (.cells us.toArray e0)) K Q
  exact wp_append_lit_kept w.drew us e0 s x t ho base e i z bytes ht hi hz hsize hby hzs hu v n m xs hs hown hm hx h63 hb hbase fun v' w' k1 k2 => h v' w' k1 ⟨⟨k2.below.os, k2.below.tape, k2.below.output, k2.below.size, k2.below.block⟩, k2.size, k2.other, k2.row⟩
/-- One operation of a drawn region taken first, its slot written out: for walking such a region step by step. -/
theorem take_put {P : Program} {md : Region.Mode} {ops : Array Oper} {Q : Exit → Act → World → Prop} {S : World → Prop} {i : Nat} (d : Nat) {oi : Oper} {v : Value} {fuel : Nat} {listed : Array Bool} {L : List Value} {ds : List Deferred} {w : World} (hi : ops[i]? = some oi) (hd : oi.dst = some d)
    (hs : Region.noSelect ops = true) (hf : Region.free md ops listed i = true) (hr : (Region.ready md ops listed).contains i = true)
    (hQ : ∀ c a w, Q (.panic c) (a.put oi.dst v) w → Q (.panic c) a w) (hy : YieldsIf P ops S oi v ⟨L.toArray, ds⟩) (hS : S w)
    (h : wpAnyH P md ops Q S fuel (listed.setIfInBounds i true) ⟨(L.set d v).toArray, ds⟩ w) : wpAnyH P md ops Q S (fuel + 1) listed ⟨L.toArray, ds⟩ w := by
  refine wpAnyH_take hi hs hf hr hQ hy hS ?_
  rw [hd]
  simpa [Act.put] using h
end Go.Proofs.Ytckgpocfcanokaa
