/- The ninth reference's Copy: contract: the copy has a row of its own; it shares the sectors' bytes, which no call writes to. Condition: the disk is as a disk is. -/
import Derived.Test.YtkgbfghlonennaaPart8
import Derived.Test.YtkgbfghlonennaaPart7
import Derived.Test.YtkgbfghlonennaaPart11
import Derived.Test.YtkgbfghlonennaaPart10
import Derived.Deep.RegionHeld3
namespace Go.Proofs.Ytkgbfghlonennaa
open Go.RowKit

/-- append of another row, at one step of a region that draws its order. -/
theorem step_append_rowR {P : Program} (w : World) {ops : Array Oper} {o : Oper} {a : Act} {K : Act → World → Prop} {Q : Exit → Act → World → Prop} {E : Prop} (hgd : o.guard = none) (s x : Operand) (t : TypeId)
    (ho : o.op = .call { callee := .builtin .append, args := #[s, x], argTypes := #[t, t] })
    (base : Nat) (e : TypeId) (i : TypeInfo) (z : Value) (n bytes : Nat) (ht : P.underlying t = some (.slice e)) (hi : P.info? e = some i) (hz : i.zero = some z)
    (hsize : i.size = n) (hby : i.bytes = bytes) (hzs : z.cells.size = n) (hn : 0 < n)
    (v : Value) (R : List (List Value)) (hs : a.eval s = v) (hown : OwnR n w base e v R)
    (vx : Value) (R2 : List (List Value)) (hl2 : ∀ l ∈ R2, l.length = n) (h1 : ∀ l ∈ R2, ∀ u ∈ l, u.oneCell' = true)
    (hx : a.eval x = vx) (hv : (vx = .slice none 0 0 ∧ R2 = []) ∨ ∃ b off c, vx = .slice (some ⟨b, off, none⟩) R2.length c ∧ ∀ i j, i < R2.length → j < n → w.cell? ⟨b, off + (i * n + j), none⟩ = (R2.getD i [])[j]?)
    (h63 : R.length + R2.length ≤ maxLen) (hb : (R.length + R2.length) * bytes ≤ 140737488355328) (hbase : base ≤ w.heap.size)
    (h : ∀ v' w', OwnR n w' base e v' (R ++ R2) → Next w w' base v v' → K (a.put o.dst v') w') : if Region.wanted o (yielded ops a.tmps) = true then Oper.wp P o a w K Q else E := by
  refine step_wanted hgd ?_
  unfold Oper.wp execOp
  rcases hv with ⟨rfl, rfl⟩ | ⟨b, off, c, rfl, hc⟩
  · have hr := run_append_owned_none (P := P) (w := w) base t o.type e i n ht hi v R.length R.flatten hown.2
    simp only [ho, resolve, invoke, builtin, Sem.run_bind, Sem.run_pure, Result.andThen_ok, List.map_toArray, List.map_cons, List.map_nil, hs, hx, hr]
    exact h v w (by rw [List.append_nil]; exact hown) ⟨Below.refl _ _, Nat.le_refl _, fun _ _ _ => rfl, .inl rfl⟩
  · obtain ⟨v', w', hr, k1, k2, _, k4⟩ := run_append_own_at (P := P) w base t o.type e i z n bytes ht hi hz hsize hby hzs hn v R.length R.flatten hown.2 ⟨b, off, none⟩ R2.length c R2.flatten (rows_length hl2) (by
      intro j u hu
      have hj : j < R2.length * n := by
        rcases Nat.lt_or_ge j (R2.length * n) with h2 | h2
        · exact h2
        · rw [List.getElem?_eq_none (by rw [rows_length hl2]; exact h2)] at hu
          cases hu
      have h2 : j / n < R2.length := (Nat.div_lt_iff_lt_mul hn).2 hj
      have h3 : j % n < n := Nat.mod_lt _ hn
      have e1 : j / n * n + j % n = j := by rw [Nat.mul_comm]; exact Nat.div_add_mod j n
      have h4 := hc (j / n) (j % n) h2 h3
      rw [← rows_get hl2 _ _ h2 h3, e1, hu] at h4
      by_cases h0 : j = 0
      · subst h0
        simpa [Addr.add] using h4
      · simpa [Addr.add, h0] using h4) (by
      intro u hu
      obtain ⟨l, hl, hul⟩ := List.mem_flatten.1 hu
      exact h1 l hl u hul) h63 hb hbase
    simp only [ho, resolve, invoke, builtin, Sem.run_bind, Sem.run_pure, Result.andThen_ok, List.map_toArray, List.map_cons, List.map_nil, hs, hx, hr]
    refine h v' w' ⟨?_, ?_⟩ ⟨(Below.refl _ _).grown k2 hbase (fun k hk => (hown.lt k hk).1), k2.size, k2.block, ?_⟩
    · intro l hl
      rcases List.mem_append.1 hl with h4 | h4
      · exact hown.1 l h4
      · exact hl2 l h4
    · rw [List.length_append, List.flatten_append]
      exact k1
    · rcases k4 with e5 | e5
      · exact .inl e5
      · exact .inr ⟨_, e5, Nat.le_refl _⟩
/-- The copy's blocks: the sectors' bytes, which it shares, and new ones. -/
def CopF (w w' : World) (X : Nat) (v : Value) (F : Nat → Prop) (k : Nat) : Prop := (F k ∧ k ≠ X ∧ v.ownBlock ≠ some k) ∨ (w.heap.size ≤ k ∧ k < w'.heap.size)
theorem RefIs.copied {w w2 : World} {X : Nat} {S : DS} {F : Nat → Prop} {v v' : Value} {Q : List PV} (h : RefIs w X S F v Q) (ho : OwnR 6 w2 w.heap.size 40 v' (Q.map PV.cells)) (hb : Below w.heap.size w w2) {w3 : World} (hw : w3 = w2.alloc (.cells #[v', .int .i64 (S.fuse : Int), .bool S.dead, .int .i64 (S.ops : Int)] 30)) :
    Below w.heap.size w w3 ∧ RefIs w3 w2.heap.size S (CopF w w3 X v F) v' Q ∧ ∀ k, Wrt w2.heap.size v' k → w.heap.size ≤ k := by
  have hB : Below w2.heap.size w2 w3 := by rw [hw]; exact (Below.refl _ _).alloc (Nat.le_refl _) _
  have hBB : Below w.heap.size w w3 := hb.trans (hB.mono hb.size)
  have hs : w3.heap.size = w2.heap.size + 1 := by rw [hw]; simp
  have hsz := hb.size
  have hl := ho.lt
  have G : ∀ u xs, Rd w u xs → (∀ k, u.ownBlock = some k → F k ∧ k ≠ X ∧ v.ownBlock ≠ some k) → Rd w3 u xs ∧ ∀ k, u.ownBlock = some k → CopF w w3 X v F k ∧ k ≠ w2.heap.size ∧ v'.ownBlock ≠ some k := fun u xs hu hf => ⟨hu.below hBB, fun k hk => by
    have h1 := hf k hk
    have h2 := h.fl k h1.1
    exact ⟨.inl h1, by omega, fun e => by have := (hl k e).1; omega⟩⟩
  refine ⟨hBB, ⟨by rw [hw]; exact Blk.made w2 _ _, ?_, h.pls, .inr ⟨hsz, by omega⟩, fun k hk => ⟨.inr ⟨(hl k hk).1, by have := (hl k hk).2; omega⟩, by have := (hl k hk).2; omega⟩, fun q hq => ?_, ?_, h.good, h.fz, h.os⟩, ?_⟩
  · have h1 := (Chg.of_below hB).ownR ho fun k hk e => by have := (hl k hk).2; omega
    exact ⟨h1.1, h1.2.1, h1.2.2.imp id fun ⟨g, cap, cur, a1, _, a3⟩ => ⟨g, cap, cur, a1, Nat.zero_le _, a3⟩⟩
  · have hq1 := h.ok q hq
    exact ⟨(G _ _ hq1.now hq1.fn).1, (G _ _ hq1.was hq1.fw).1, (G _ _ hq1.now hq1.fn).2, (G _ _ hq1.was hq1.fw).2⟩
  · rintro k (hk | hk)
    · have := h.fl k hk.1
      omega
    · exact hk.2
  · rintro k (hk | hk)
    · omega
    · exact (hl k hk).1
/-- The world while the copy is made. -/
def CopS (w : World) (v : Value) (Q : List PV) (V : World) : Prop := OwnR 6 V 0 40 v (Q.map PV.cells) ∧ Below w.heap.size w V
theorem CopS.on {w : World} {v : Value} {Q : List PV} {V V' : World} (h : CopS w v Q V) (hb : Below V.heap.size V V') : CopS w v Q V' := ⟨(Chg.of_below hb).ownR h.1 fun k hk e => by have := (h.1.lt k hk).2; omega, h.2.trans (hb.mono h.2.size)⟩
set_option maxRecDepth 100000 in
set_option maxHeartbeats 4000000 in
theorem refCopy_any {w : World} {X : Nat} {S : DS} {F : Nat → Prop} {v : Value} {Q : List PV} (h : RefIs w X S F v Q) :
    Calls Try.prog 20 #[.pointer (some ⟨X, 0, none⟩)] w fun e w' => ∃ Y, e = .returned (.pointer (some ⟨Y, 0, none⟩)) ∧ Below w.heap.size w w' ∧ ∃ v', RefIs w' Y S (CopF w w' X v F) v' Q ∧ ∀ k, Wrt Y v' k → w.heap.size ≤ k := by
  obtain ⟨A, c, rfl, hc1, hc2, hA⟩ := h.form
  obtain ⟨ip, hip, hpz, hps, hpb⟩ := inf_of info_place
  have HR := Lib.hid h
  have HA := Lib.hid hA
  have nQ : Q.length ≤ 1024 := by have := h.good.length; have := h.len; omega
  obtain ⟨fz, hfz⟩ : ∃ fz, fz = S.fuse := ⟨_, rfl⟩
  obtain ⟨dd, hdd⟩ : ∃ dd, dd = S.dead := ⟨_, rfl⟩
  obtain ⟨op, hop⟩ : ∃ op, op = S.ops := ⟨_, rfl⟩
  have hcell : ∀ V, Below w.heap.size w V → V.cell? ⟨X, 0, none⟩ = some (.slice A Q.length c) ∧ V.cell? ⟨X, 1, none⟩ = some (.int .i64 (fz : Int)) ∧ V.cell? ⟨X, 2, none⟩ = some (.bool dd) ∧ V.cell? ⟨X, 3, none⟩ = some (.int .i64 (op : Int)) := fun V hV => by
    have hb := h.blk.below hV h.blk.lt
    rw [hb.cell, hb.cell, hb.cell, hb.cell, hfz, hdd, hop]
    exact ⟨rfl, rfl, rfl, rfl⟩
  have HALL : Hid (∀ V, CopS w (.slice A Q.length c) Q V → V.cell? ⟨X, 0, none⟩ = some (.slice A Q.length c) ∧ V.cell? ⟨X, 1, none⟩ = some (.int .i64 (fz : Int)) ∧ V.cell? ⟨X, 2, none⟩ = some (.bool dd) ∧ V.cell? ⟨X, 3, none⟩ = some (.int .i64 (op : Int)) ∧ CopS w (.slice A Q.length c) Q V) := Lib.hid fun V hV => by
    obtain ⟨h1, h2, h3, h4⟩ := hcell V hV.2
    exact ⟨h1, h2, h3, h4, hV⟩
  have hS := HALL.out w ⟨h.row, Below.refl _ _⟩
  have SA : ∀ {V : World}, (V.cell? ⟨X, 0, none⟩ = some (.slice A Q.length c) ∧ V.cell? ⟨X, 1, none⟩ = some (.int .i64 (fz : Int)) ∧ V.cell? ⟨X, 2, none⟩ = some (.bool dd) ∧ V.cell? ⟨X, 3, none⟩ = some (.int .i64 (op : Int)) ∧ CopS w (.slice A Q.length c) Q V) → ∀ {o : Obj}, ((V.alloc o).cell? ⟨X, 0, none⟩ = some (.slice A Q.length c) ∧ (V.alloc o).cell? ⟨X, 1, none⟩ = some (.int .i64 (fz : Int)) ∧ (V.alloc o).cell? ⟨X, 2, none⟩ = some (.bool dd) ∧ (V.alloc o).cell? ⟨X, 3, none⟩ = some (.int .i64 (op : Int)) ∧ CopS w (.slice A Q.length c) Q (V.alloc o)) := fun h o => HALL.out _ (h.2.2.2.2.on ((Below.refl _ _).alloc (Nat.le_refl _) o))
  have SD : ∀ {V : World}, (V.cell? ⟨X, 0, none⟩ = some (.slice A Q.length c) ∧ V.cell? ⟨X, 1, none⟩ = some (.int .i64 (fz : Int)) ∧ V.cell? ⟨X, 2, none⟩ = some (.bool dd) ∧ V.cell? ⟨X, 3, none⟩ = some (.int .i64 (op : Int)) ∧ CopS w (.slice A Q.length c) Q V) → (V.drew.cell? ⟨X, 0, none⟩ = some (.slice A Q.length c) ∧ V.drew.cell? ⟨X, 1, none⟩ = some (.int .i64 (fz : Int)) ∧ V.drew.cell? ⟨X, 2, none⟩ = some (.bool dd) ∧ V.drew.cell? ⟨X, 3, none⟩ = some (.int .i64 (op : Int)) ∧ CopS w (.slice A Q.length c) Q V.drew) := fun h => HALL.out _ (h.2.2.2.2.on (below_drewN (Below.refl _ _) 1))
  have HROW := Lib.hid h.row
  have COF : Hid (∀ V, Below w.heap.size w V → CopS w (.slice A Q.length c) Q V) := Lib.hid fun V hV => ⟨(Chg.of_below hV).ownR HROW.out fun k hk e => by have := (HROW.out.lt k hk).2; omega, hV⟩
  have W1b : Below w.heap.size w (w.alloc (.cells #[] 40)).drew := ((Below.refl _ _).alloc (Nat.le_refl _) _).drew
  have HB1 := Lib.hid W1b
  have O0 : Hid (OwnR 6 (w.alloc (.cells #[] 40)).drew w.heap.size 40 (.slice (some ⟨w.heap.size, 0, none⟩) 0 0) []) := Lib.hid ⟨fun l hl => (List.not_mem_nil hl).elim, World.ownsRow_lit w #[] 0 (Nat.le_refl _) (Nat.zero_le _) rfl⟩
  have HL6 : Hid (∀ l ∈ Q.map PV.cells, l.length = 6) := Lib.hid h.row.1
  have H1C : Hid (∀ l ∈ Q.map PV.cells, ∀ x ∈ l, x.oneCell' = true) := Lib.hid fun l hl x hx => by
    obtain ⟨q, hq, rfl⟩ := List.mem_map.1 hl
    obtain ⟨An, cn, hn, _⟩ := (h.ok q hq).now.form
    obtain ⟨Aw, cw, hw, _⟩ := (h.ok q hq).was.form
    unfold PV.cells at hx
    rw [hn, hw] at hx
    simp only [List.mem_cons, List.not_mem_nil, or_false] at hx
    rcases hx with rfl | rfl | rfl | rfl | rfl | rfl <;> rfl
  have HV : Hid ((Value.slice A Q.length c = .slice none 0 0 ∧ Q.map PV.cells = []) ∨ ∃ b off c', Value.slice A Q.length c = .slice (some ⟨b, off, none⟩) (Q.map PV.cells).length c' ∧ ∀ i j, i < (Q.map PV.cells).length → j < 6 → (w.alloc (.cells #[] 40)).drew.cell? ⟨b, off + (i * 6 + j), none⟩ = ((Q.map PV.cells).getD i [])[j]?) := Lib.hid (by
    rcases h.row.2.2 with ⟨h0, h1⟩ | ⟨g, cap, cur, h0, _⟩
    · exact .inl ⟨h0, List.eq_nil_of_length_eq_zero h1⟩
    · refine .inr ⟨g, 0, cap, h0, fun i j hi hj => ?_⟩
      have hrow := h.row
      rw [h0] at hrow
      have hg := (hrow.lt g rfl).2
      rw [Nat.zero_add, W1b.cell (p := ⟨g, i * 6 + j, none⟩) hg]
      exact hrow.cell i j hi hj)
  have HN1 : Hid (([] : List (List Value)).length + (Q.map PV.cells).length ≤ maxLen) := Lib.hid (by simp; unfold maxLen; omega)
  have HN2 : Hid ((([] : List (List Value)).length + (Q.map PV.cells).length) * 64 ≤ 140737488355328) := Lib.hid (by simp; omega)
  have HFZ := Lib.hid hfz
  have HDD := Lib.hid hdd
  have HOP := Lib.hid hop
  clear hcell h hA hfz hdd hop W1b
  go_enter Try.func20, Try.ntmps20
  go_wp2_with (fail)
  go_region_held3 (fun V => V.cell? ⟨X, 0, none⟩ = some (.slice A Q.length c) ∧ V.cell? ⟨X, 1, none⟩ = some (.int .i64 (fz : Int)) ∧ V.cell? ⟨X, 2, none⟩ = some (.bool dd) ∧ V.cell? ⟨X, 3, none⟩ = some (.int .i64 (op : Int)) ∧ CopS w (.slice A Q.length c) Q V) (first | assumption | exact SD (by assumption) | exact SA (by assumption)) (first
    | (refine step_append_rowR _ rfl (.tmp 3) (.tmp 7) 28 rfl w.heap.size 40 ip _ 6 64 Try.underlying28 hip hpz hps hpb (by rfl) (by decide) _ [] rfl O0.out _ (Q.map PV.cells) HL6.out H1C.out rfl HV.out HN1.out HN2.out HB1.out.size ?_
       intro v2 w2 own2 nx2
       obtain ⟨A2, c2, hv2, _, _, _⟩ := own2.form
       subst hv2
       have s2 := HALL.out w2 (COF.out w2 (HB1.out.trans nx2.below))))
  all_goals
    have h3 := RefIs.copied HR.out own2 (HB1.out.trans nx2.below) (w3 := w2.alloc (.cells #[.slice A2 Q.length c2, .int .i64 (fz : Int), .bool dd, .int .i64 (op : Int)] 30)) (by rw [HFZ.out, HDD.out, HOP.out]; simp)
    have H3 := Lib.hid h3
    clear h3 own2 nx2 s2 hS
    go_wp2_with (fail)
    go_ret
    obtain ⟨a1, a2, a3⟩ := H3.out
    exact ⟨_, rfl, a1, _, a2, a3⟩
end Go.Proofs.Ytkgbfghlonennaa
