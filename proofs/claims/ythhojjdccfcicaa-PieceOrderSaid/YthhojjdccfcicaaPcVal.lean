/- maps.Values at the developers' map of pieces: its iterator gives each entry's piece. Condition: a map of pieces. -/
import Derived.Test.YthhojjdccfcicaaRngKI
import Derived.Test.YthhojjdccfcicaaKeySI
import Derived.Test.YthhojjdccfcicaaPcOk
namespace Go.Proofs.Ythhojjdccfcicaa
open Go.RowKit

theorem placeSI : StrInt Try.prog 45 9 2 where
  laid := by kernel_rfl
  row := of_decide_eq_true (by kernel_rfl)
  at2 := by kernel_rfl
  und := ⟨_, Try.underlying45, by kernel_rfl, by kernel_rfl⟩
  whole := by kernel_rfl
  cells := by kernel_rfl
  str := Try.underlying9
  strc := by kernel_rfl
  int := Try.underlying2
  intc := by kernel_rfl
noncomputable def placeK : KeyD Try.prog 45 (ByteArray × Int) := placeSI.keys
/-- A map of pieces. -/
def MapP (w : World) (b n : Nat) (f : ByteArray × Int → Option PcO) : Prop := MapK placeK w b n fun k => (f k).map pcV
/-- What comes of a map of pieces. -/
def ValsOf (f : ByteArray × Int → Option PcO) (xs : List PcO) : Prop := ∃ ks : List (ByteArray × Int), ks.Nodup ∧ (∀ k, k ∈ ks ↔ (f k).isSome = true) ∧ xs.map some = ks.map f
theorem map_mapV : Try.prog.underlying 43 = some (.map 45 27) := Try.underlying43
set_option maxRecDepth 100000 in
set_option maxHeartbeats 2000000 in
theorem values_any (mb : Option Nat) (W : World) : Calls Try.prog 20 #[.map mb] W fun e w' => e = .returned (.func (.func 28) #[] #[.pointer (some ⟨W.heap.size, 0, none⟩)]) ∧ w' = W.alloc (.cells #[.map mb] 43) := by
  go_enter Try.func20, Try.ntmps20
  go_wp2_with (fail)
  go_ret
  exact ⟨rfl, rfl⟩
def NoneLeft (left : ByteArray × Int → Bool) : Prop := ∀ x, left x = false
/-- An entry has come. -/
structure MoreP (w w' : World) (b r n : Nat) (f : ByteArray × Int → Option PcO) (left : ByteArray × Int → Bool) (cnt : Nat) (s : ByteArray) (t : Int) (p : Pc) (cnt' : Nat) : Prop where
  ok : p.Ok
  here : ∃ q : PcO, f (s, t) = some q ∧ q.1 = p
  lft : left (s, t) = true
  rng : RngK placeK w' b r n (fun k => (f k).map pcV) (fun z => left z && !(decide (z = (s, t)))) cnt'
  less : cnt' < cnt
  grown : w.grownBy w' (some r)
  entry : (Instr.entry (.pointer (some ⟨r, 0, none⟩))).run Try.prog w' = .ok (.tuple #[.agg #[.string s, .int .i64 t], .agg #[.string p.s, .int .i64 p.t, .int .i64 p.v, .int .u64 (p.n : Int), .int .u16 (p.o : Int)]]) w'
theorem wpListIn_nextP {F : Fence} {nf : Nat} {w : World} {ops : Array Oper} {rest : List Oper} {o : Oper} {a : Act} {Q : Exit → Act → World → Prop} (hg : o.guard = none) (it : Operand) (hop : o.op = Op.next it false)
    {b r n : Nat} {f : ByteArray × Int → Option PcO} {left : ByteArray × Int → Bool} {cnt : Nat} (hit : a.eval it = .pointer (some ⟨r, 0, none⟩)) (h : RngK placeK w b r n (fun k => (f k).map pcV) left cnt)
    (hDone : NoneLeft left → wpListIn F nf Try.prog ops Q rest (a.put o.dst (.tuple #[.bool false])) w)
    (hMore : ∀ (s : ByteArray) (t : Int) (p : Pc) (w' : World) (cnt' : Nat), MoreP w w' b r n f left cnt s t p cnt' → wpListIn F nf Try.prog ops Q rest (a.put o.dst (.tuple #[.bool true, .agg #[.string s, .int .i64 t], .agg #[.string p.s, .int .i64 p.t, .int .i64 p.v, .int .u64 (p.n : Int), .int .u16 (p.o : Int)]])) w') : wpListIn F nf Try.prog ops Q (o :: rest) a w := by
  refine wpListIn_nextK hg it hop hit h (fun hd => hDone hd) fun x c w' cnt' hok hl hfx hr hlt hgr hsz hen => ?_
  obtain ⟨p, hfp, rfl⟩ : ∃ p, f x = some p ∧ pcV p = c := by
    cases hf : f x with
    | none => simp only [hf] at hfx; cases hfx
    | some p => simp only [hf] at hfx; exact ⟨p, rfl, by injection hfx⟩
  exact hMore x.1 x.2 p.1 w' cnt' ⟨p.2, ⟨p, hfp, rfl⟩, hl, hr, hlt, hgr, hen⟩
set_option maxRecDepth 100000 in
set_option maxHeartbeats 4000000 in
theorem values1_in (F : Fence) (n : Nat) (h10 : F.fn 28) (hro : F.round = none) (hn : 1 ≤ n) (l Bm b nn : Nat) (f : ByteArray × Int → Option PcO) (J : List PcO → World → Prop)
    (hY : ∀ pre x W, J pre W → pre.length < nn → YieldAt F (n - 1) Try.prog l #[pcV x] W fun e W' => e = .returned (.bool true) ∧ J (pre ++ [x]) W' ∧ KeepsWalks W W')
    (W : World) (hJ : AbidesFrom W.heap.size J) (hm : W.cell? ⟨Bm, 0, none⟩ = some (.map (some b))) (hown : MapP W b nn f) (h0 : J [] W) :
    CallsIn F n Try.prog 28 #[.func (.yield l) #[] #[], .pointer (some ⟨Bm, 0, none⟩)] W fun e W' => (∃ v, e = .returned v) ∧ ∃ xs, ValsOf f xs ∧ J xs W' := by
  have t0 := Try.underlying0
  refine callsIn_of_wp Try.func28 rfl h10 ?_ hro
  simp only [Try.ntmps28, List.size_toArray, List.length_cons, List.length_nil, Nat.reduceAdd, Nat.reduceSub, Array.replicate_succ, Array.replicate_zero, List.push_toArray, List.append_toArray, List.nil_append, List.cons_append]
  gi_wp2_with (first
    | (gi_at_range; refine wpListIn_rangeK rfl _ _ 27 rfl map_mapV rfl hown ?_; rintro w0 ⟨cnt0, hc0, hrg0⟩ hg0 hs0)
    | gi_in)
  go_frame
  gi_loopw [4] (fun _ wr => ∃ (left : ByteArray × Int → Bool) (cnt : Nat) (ks : List (ByteArray × Int)) (xs : List PcO), RngK placeK wr b W.heap.size nn (fun k => (f k).map pcV) left cnt ∧ xs.length + cnt ≤ nn ∧ CameK (fun k => (f k).map pcV) left ks ∧ xs.map some = ks.map f ∧ J xs wr)
    (fun _ wr => wr.rangeLeft b W.heap.size)
  case atStart =>
    exact ⟨_, _, [], [], hrg0, by simpa using hc0, CameK.start _, rfl, hJ [] W w0 none h0 hg0 (fun r e => by cases e)⟩
  case round =>
    obtain ⟨left, cnt, ks, xs, hrg, hcs, hC, hV, hJs⟩ := hrel
    gi_wp2_with (first
      | (gi_at_next; refine wpListIn_nextP rfl _ rfl rfl hrg ?_ ?_)
      | gi_in)
    · intro hl0
      gi_wp2
      go_end0
      exact ⟨⟨_, rfl⟩, xs, ⟨ks, hC.nodup, fun k => by have := hC.all hl0 k; simpa using this, hV⟩, hJs⟩
    · intro s t p w2 cnt2 hM
      have hen := hM.entry
      obtain ⟨q, hq, hqp⟩ := hM.here
      have hJ2 : J xs w2 := hJ xs wr w2 (some W.heap.size) hJs hM.grown (fun r e => by cases e; exact ⟨Nat.le_refl _, hrg.iter_walk⟩)
      obtain ⟨w3, hw3⟩ : ∃ w3, w3 = w2.alloc (.cells #[.string p.s, .int .i64 p.t, .int .i64 p.v, .int .u64 (p.n : Int), .int .u16 (p.o : Int)] 27) := ⟨_, rfl⟩
      have hg3 : w2.grownBy w3 none := by rw [hw3]; exact ⟨rfl, rfl, rfl, by simp, fun k hk _ => Below.heap_alloc _ _ k hk⟩
      have hJ3 : J xs w3 := hJ xs w2 w3 none hJ2 hg3 (fun r e => by cases e)
      have hrg3 := hM.rng.of_walks (w' := w3) (KeepsWalks.of_grownBy hg3 fun j o e => by cases e)
      obtain ⟨fn, tmps, assign, body, hy, hR⟩ := hY xs q w3 hJ3 (by have := hM.less; omega)
      have hy : (Instr.yield l #[.agg #[.string p.s, .int .i64 p.t, .int .i64 p.v, .int .u64 (p.n : Int), .int .u16 (p.o : Int)]]).run Try.prog w3 = .ok (.round l fn tmps assign body) w3 := by
        rw [← hqp]
        exact hy
      rw [hw3] at hy
      gi_wp2
      rw [← hw3]
      refine hR.mono ?_
      rintro e W3 ⟨rfl, hJ4, hk3⟩
      gi_wp2
      have hrg4 := hrg3.of_walks hk3
      go_roundw
      case rel => exact ⟨_, cnt2, ks ++ [(s, t)], xs ++ [q], hrg4, by have := hM.less; simp; omega, hC.step (by show (Option.map pcV (f (s, t))).isSome = true; rw [hq]; rfl) hM.lft, by simp [hV, hq], hJ4⟩
      case measure => rw [hrg4.left_eq, hrg.left_eq]; exact hM.less
end Go.Proofs.Ythhojjdccfcicaa
