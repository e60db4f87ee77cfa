/- Part 9 of the words that the laws share: DGood, Lit, Here, ArrAll. No condition of its own: each theorem says its own. -/
import Derived.Test.YtbodiioemohenaaDoorPart1

/- Each act leaves a disk as a disk is. Condition: what it was before. -/
namespace Go.Proofs.YtbodiioemohenaaDoor

theorem dok_of {S S' : DS} (h : DOk S) (hL : S'.L = S.L) : DOk S' := DOk.ops h hL
theorem dok_new : DOk newS := ⟨fun _ h => (List.not_mem_nil h).elim, List.Pairwise.nil, fun _ h => (List.not_mem_nil h).elim⟩
theorem dok_withP {S : DS} {k : Nat} (h : DOk S) (hk : k < 1024) : DOk { S with L := withP S.L k } := by
  unfold withP
  split
  · exact h
  · rename_i hn
    exact insP_ok h hk hn rfl
theorem dok_writeL {S : DS} {k : Nat} (h : DOk S) (hk : k < 1024) {bs : List UInt8} (hb : bs.length ≤ 128) : DOk { S with L := writeL S.L k bs } := by
  have h1 := dok_withP h hk
  have hi : findL (withP S.L k) k < (withP S.L k).length := withP_found S.L k
  have hf := h1.full _ (List.getElem_mem hi)
  refine DOk.put (S := { S with L := withP S.L k }) h1 hi (p := putP (withP S.L k)[findL (withP S.L k) k] bs) rfl (pad128_length hb) ?_ ?_
  · show (if _ then _ else _ : List UInt8).length = 128
    split
    · exact hf.2
    · exact hf.1
  · show writeL S.L k bs = _
    exact writeL_set rfl rfl hi
theorem dok_write {S : DS} (h : DOk S) (k : Int) (bs : List UInt8) : DOk (writeS S k bs).1 := by
  unfold writeS
  split
  · exact h
  · split
    · exact h
    · split
      · exact h
      · rename_i h1 h2
        exact dok_of (dok_writeL h (k := k.toNat) (by omega) (bs := bs) (by omega)) (burnS_L _)
theorem dok_map {S : DS} (h : DOk S) {f : Pl → Pl} (hf : ∀ p, (f p).plc = p.plc) (hn : ∀ p, p.now.length = 128 ∧ p.was.length = 128 → (f p).now.length = 128 ∧ (f p).was.length = 128) : DOk { S with L := S.L.map f } := by
  refine ⟨fun p hp => ?_, ?_, fun p hp => ?_⟩
  · obtain ⟨q, hq, rfl⟩ := List.mem_map.1 hp
    rw [hf]
    exact h.low q hq
  · show (S.L.map f).Pairwise _
    rw [List.pairwise_map]
    exact h.rise.imp fun {p q} hpq => by rw [hf, hf]; exact hpq
  · obtain ⟨q, hq, rfl⟩ := List.mem_map.1 hp
    exact hn q (h.full q hq)
theorem dok_sync {S : DS} (h : DOk S) : DOk (syncS S).1 := by
  unfold syncS
  split
  · exact h
  · dsimp only
    split
    · exact dok_of h (burnS_L S)
    · exact dok_map (dok_of h (burnS_L S)) (fun _ => rfl) fun _ hp => hp
theorem dok_fuse {S : DS} (h : DOk S) (n : Int) : DOk (fuseS S n).1 := by
  unfold fuseS
  split
  · exact h
  · exact dok_of h rfl
theorem boot_full (fs : List UInt8) : ∀ (L : List Pl) (j : Nat), (∀ p ∈ L, p.now.length = 128 ∧ p.was.length = 128) → ∀ p ∈ bootL fs j L, p.now.length = 128 ∧ p.was.length = 128
  | [], _, _, p, hp => by cases hp
  | q :: L, j, h, p, hp => by
    rw [List.forall_mem_cons] at h
    unfold bootL at hp
    split at hp
    · rcases List.mem_cons.1 hp with rfl | hp
      · refine ⟨?_, h.1.2⟩
        show (if _ then _ else _ : List UInt8).length = 128
        split
        · exact h.1.2
        · exact h.1.1
      · exact boot_full fs L _ h.2 p hp
    · rcases List.mem_cons.1 hp with rfl | hp
      · exact h.1
      · exact boot_full fs L _ h.2 p hp
theorem boot_rise (fs : List UInt8) : ∀ (L : List Pl) (j : Nat), L.Pairwise (fun p q => p.plc < q.plc) → (bootL fs j L).Pairwise (fun p q => p.plc < q.plc)
  | [], _, _ => List.Pairwise.nil
  | q :: L, j, h => by
    rw [List.pairwise_cons] at h
    unfold bootL
    split
    · rw [List.pairwise_cons]
      refine ⟨fun p hp => ?_, boot_rise fs L _ h.2⟩
      obtain ⟨r, h1, h2⟩ := bootL_plc fs _ L p hp
      rw [← h2]
      exact h.1 r h1
    · rw [List.pairwise_cons]
      refine ⟨fun p hp => ?_, boot_rise fs L _ h.2⟩
      obtain ⟨r, h1, h2⟩ := bootL_plc fs _ L p hp
      rw [← h2]
      exact h.1 r h1
theorem dok_boot {S : DS} (h : DOk S) (fs : List UInt8) : DOk (bootS S fs) := by
  refine ⟨fun p hp => ?_, boot_rise fs S.L 0 h.rise, boot_full fs S.L 0 h.full⟩
  obtain ⟨r, h1, h2⟩ := bootL_plc fs _ S.L p hp
  rw [← h2]
  exact h.low r h1
end Go.Proofs.YtbodiioemohenaaDoor

/- A literal row of bytes in a new block reads as its bytes; it lies in no elder block. No condition of its own. -/
namespace Go.Proofs.YtbodiioemohenaaDoor
open Go.RowKit

theorem rd_litm {w : World} {t : TypeId} {fr : Nat × Nat} (xs : List UInt8) (n c : Nat) (hn : n = xs.length) (hc : n ≤ c) (hm : c ≤ maxLen) : Rd (w.alloc (.cells (xs.map bv).toArray t fr)) (.slice (some ⟨w.heap.size, 0, none⟩) n c) xs := by
  subst hn
  refine .inr ⟨w.heap.size, 0, c, rfl, by simp, hc, hm, fun i hi => ?_⟩
  rw [Nat.zero_add, cell_of_row _ w.heap.size i _ _ _ (heap_alloc_new w _)]
  simp [bv, hi]
theorem rd_lit (w : World) (x : UInt8) : Rd (w.alloc (.cells #[.int .u8 (x.toNat : Int)] 5)) (.slice (some ⟨w.heap.size, 0, none⟩) 1 1) [x] := rd_one rfl
theorem lit_apart {F : Nat → Prop} {n : Nat} (h : ∀ k, F k → k < n) (len c : Nat) : 0 < 1 → ∀ j, (Value.slice (some ⟨n, 0, none⟩) len c).ownBlock = some j → ¬ F j := fun _ j hj hf => by
  have e : n = j := by simpa [Value.ownBlock] using hj
  have := h j hf
  omega
end Go.Proofs.YtbodiioemohenaaDoor

/- Guards of a walk's arms: each changes nothing, and fits one operation alone (use: with_reducible refine here_store ?_, ahead of a law for a store). No condition of its own. -/
namespace Go.Proofs.YtbodiioemohenaaDoor
open Go.RowKit

section
variable {P : Program} {ops : Array Oper} {rest : List Oper} {a : Act} {w : World} {Q : Exit → Act → World → Prop} {d : Option Tmp} {t : TypeId} {p : String} {f : Array Edge} {g : Option (Tmp × Bool)}
theorem here_store {ty : TypeId} {x y : Operand} (h : wpList P ops Q (⟨d, .store ty x y, t, p, f, g⟩ :: rest) a w) : wpList P ops Q (⟨d, .store ty x y, t, p, f, g⟩ :: rest) a w := h
theorem here_load {ty : TypeId} {x : Operand} (h : wpList P ops Q (⟨d, .load ty x, t, p, f, g⟩ :: rest) a w) : wpList P ops Q (⟨d, .load ty x, t, p, f, g⟩ :: rest) a w := h
theorem here_alloc {ty : TypeId} (h : wpList P ops Q (⟨d, .alloc ty, t, p, f, g⟩ :: rest) a w) : wpList P ops Q (⟨d, .alloc ty, t, p, f, g⟩ :: rest) a w := h
theorem here_build {ty : TypeId} {l : Array (Nat × Operand)} (h : wpList P ops Q (⟨d, .build ty l, t, p, f, g⟩ :: rest) a w) : wpList P ops Q (⟨d, .build ty l, t, p, f, g⟩ :: rest) a w := h
theorem here_slices {ty : TypeId} {n : Nat} {l : Array (Nat × Operand)} (h : wpList P ops Q (⟨d, .buildSlice ty n l, t, p, f, g⟩ :: rest) a w) : wpList P ops Q (⟨d, .buildSlice ty n l, t, p, f, g⟩ :: rest) a w := h
theorem here_look {ty : TypeId} {x y : Operand} {b : Bool} (h : wpList P ops Q (⟨d, .lookup ty x y b, t, p, f, g⟩ :: rest) a w) : wpList P ops Q (⟨d, .lookup ty x y b, t, p, f, g⟩ :: rest) a w := h
theorem here_upd {ty : TypeId} {x y z : Operand} (h : wpList P ops Q (⟨d, .mapUpdate ty x y z, t, p, f, g⟩ :: rest) a w) : wpList P ops Q (⟨d, .mapUpdate ty x y z, t, p, f, g⟩ :: rest) a w := h
theorem here_map {ty : TypeId} (h : wpList P ops Q (⟨d, .makeMap ty none, t, p, f, g⟩ :: rest) a w) : wpList P ops Q (⟨d, .makeMap ty none, t, p, f, g⟩ :: rest) a w := h
end
end Go.Proofs.YtbodiioemohenaaDoor

/- '==' on arrays of integers, of any length. Condition: the type is the program's. -/
namespace Go.Proofs.YtbodiioemohenaaDoor
open Go.RowKit

theorem run_equalIn_arr {P : Program} (w : World) (d : Nat) (t e : TypeId) (n : Nat) (i : TypeInfo) (k k' : IntKind) (ht : P.underlying t = some (.array n e)) (he : P.underlying e = some (.int k')) (hi : P.info? e = some i) (hs : i.size = 1) (xs ys : List Int) (hx : xs.length = n) (hy : ys.length = n) :
    (Op.equalIn (d + 2) t (.agg (xs.map (Value.int k)).toArray) (.agg (ys.map (Value.int k)).toArray)).run P w = .ok (decide (xs = ys)) w := by
  have h : ∀ a b, (Op.equalIn (d + 1) e (.int k a) (.int k b)).run P w = .ok (a == b) w := fun a b => run_equalIn_int w d e k k' a b he
  have hp : ∀ (zs : List Int) (m : Nat) (z : Int), zs[m]? = some z → (part e (zs.map (Value.int k)).toArray m).run P w = .ok (.int k z) w := by
    intro zs m z hz
    simp [part, isAgg, run_underlying he, hz]
  rw [Op.equalIn]
  simp only [Sem.run_bind, run_underlying ht, Result.andThen_ok, sizeOf, typeInfo, run_program, hi, Sem.run_pure, hs, Nat.mul_one, Std.Legacy.Range.forIn_eq_forIn_range', Std.Legacy.Range.size, Nat.sub_zero, Nat.add_sub_cancel, Nat.div_one]
  have key : ∀ m s, s + m = n → (Sem.run P (forIn (List.range' s m) ((none : Option Bool), ()) fun i __s => do
            let __do_lift ← part e (List.map (Value.int k) xs).toArray i
            let __do_lift_1 ← part e (List.map (Value.int k) ys).toArray i
            let __do_lift ← Op.equalIn (d + 1) e __do_lift __do_lift_1
            if (!__do_lift) = true then pure (ForInStep.done (some false, ())) else pure (ForInStep.yield (none, ()))) w) = .ok (if xs.drop s = ys.drop s then (none, ()) else (some false, ())) w := by
    intro m
    induction m with
    | zero =>
      intro s hsn
      have e1 : xs.drop s = [] := List.drop_of_length_le (by omega)
      have e2 : ys.drop s = [] := List.drop_of_length_le (by omega)
      simp [e1, e2]
    | succ m ih =>
      intro s hsn
      have x1 : s < xs.length := by omega
      have y1 : s < ys.length := by omega
      have px := hp xs s xs[s] (List.getElem?_eq_getElem x1)
      have py := hp ys s ys[s] (List.getElem?_eq_getElem y1)
      rw [List.range'_succ]
      simp only [List.forIn_cons, Sem.run_bind, px, py, Result.andThen_ok, h]
      by_cases hxy : xs[s] = ys[s]
      · have hb : (xs[s] == ys[s]) = true := by rw [hxy]; simp
        rw [hb]
        simp only [Bool.not_true, Bool.false_eq_true, if_false, Sem.run_pure, Result.andThen_ok]
        have e : (xs.drop s = ys.drop s) = (xs.drop (s + 1) = ys.drop (s + 1)) := by
          rw [List.drop_eq_getElem_cons x1, List.drop_eq_getElem_cons y1, hxy]
          simp only [List.cons.injEq, true_and]
        rw [ih (s + 1) (by omega)]
        simp only [e]
      · have hb : (xs[s] == ys[s]) = false := by simpa using hxy
        rw [hb]
        have e : ¬ xs.drop s = ys.drop s := by
          rw [List.drop_eq_getElem_cons x1, List.drop_eq_getElem_cons y1]
          simp only [List.cons.injEq, not_and]
          exact fun h => absurd h hxy
        rw [if_neg e]
        simp
  rw [key n 0 (by omega)]
  simp only [List.drop_zero]
  by_cases hxy : xs = ys
  · simp [hxy]
  · simp [hxy]
/-- The arrays of bytes. -/
theorem run_equal_bytes {P : Program} (w : World) (t e : TypeId) (n : Nat) (i : TypeInfo) (ht : P.underlying t = some (.array n e)) (he : P.underlying e = some (.int .u8)) (hi : P.info? e = some i) (hs : i.size = 1) (xs ys : List UInt8) (hx : xs.length = n) (hy : ys.length = n) :
    (Op.equal t (.agg (xs.map bv).toArray) (.agg (ys.map bv).toArray)).run P w = .ok (decide (xs = ys)) w := by
  have h := run_equalIn_arr w 9998 t e n i .u8 .u8 ht he hi hs (xs.map fun b => (b.toNat : Int)) (ys.map fun b => (b.toNat : Int)) (by simpa using hx) (by simpa using hy)
  rw [List.map_map, List.map_map] at h
  have e1 : decide (List.map (fun b : UInt8 => (b.toNat : Int)) xs = List.map (fun b : UInt8 => (b.toNat : Int)) ys) = decide (xs = ys) := by
    congr 1
    apply propext
    refine ⟨fun h => ?_, fun h => by rw [h]⟩
    exact (List.map_inj_right fun a b hab => UInt8.toNat_inj.1 (by omega)).1 h
  rw [e1] at h
  exact h
end Go.Proofs.YtbodiioemohenaaDoor
