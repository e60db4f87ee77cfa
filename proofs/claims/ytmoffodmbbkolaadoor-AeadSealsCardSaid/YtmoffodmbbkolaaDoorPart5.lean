/- Part 5 of the words that the laws share: Gen, W64, Lent. No condition of its own: each theorem says its own. -/
import Derived.Test.YtmoffodmbbkolaaDoorPart3
import Derived.Test.YtmoffodmbbkolaaDoorPart4
import Derived.Test.YtmoffodmbbkolaaDoorPart1
import Derived.Laws.AppendOwnNone

/- General words that more than one layer uses: rows of the call's own, blocks known whole, the loops of a body. No condition of its own. -/
namespace Go.Proofs.YtmoffodmbbkolaaDoor
open Go.RowKit

theorem own_lain {w w' : World} {base : Nat} {t : TypeId} {v : Value} {n : Nat} {xs : List Value} (h : w.ownsRow base t 1 v n xs) (hb : Below w.heap.size w w') : w'.ownsRow base t 1 v n xs := by
  refine h.kept (row := none) ⟨hb.os, hb.tape, hb.output, hb.size, fun k hk _ => hb.block k hk⟩ ?_
  by_cases h0 : v.ownBlock = none
  · exact .inl h0
  · exact .inr h0
theorem own_form {w : World} {B : Nat} {t : TypeId} {v : Value} {n : Nat} {zs : List Value} (h : w.ownsRow B t 1 v n zs) (hn : 0 < n) : ∃ g c, v = .slice (some ⟨g, 0, none⟩) n c ∧ n ≤ c ∧ c ≤ maxLen := by
  rcases h.2 with ⟨_, h0⟩ | ⟨g, cp, cur, hv, _, _, h1, h2, _⟩
  · omega
  · exact ⟨g, cp, hv, h1, h2⟩
theorem Rd.cut {w : World} {g M c : Nat} {xs : List UInt8} (h : Rd w (.slice (some ⟨g, 0, none⟩) M c) xs) (a k : Nat) (hk : 0 < k) (hl : a + k ≤ xs.length) : Rd w (.slice (some ⟨g, a, none⟩) k (c - a)) ((xs.drop a).take k) := by
  rcases h with ⟨A', c', h1, h2, h3, rfl⟩ | ⟨b, off, c', h1, h2, h3, h4, h5⟩
  · simp at hl; omega
  · injection h1 with e1 e2 e3
    injection e1 with e1
    injection e1 with e4 e5
    subst e4 e5 e3
    have hl2 : ((xs.drop a).take k).length = k := by simp; omega
    refine .inr ⟨g, a, c - a, by rw [hl2], h2, by omega, by omega, fun i hi => ?_⟩
    rw [hl2] at hi
    have h6 := h5 (a + i) (by omega)
    rw [Nat.zero_add] at h6
    rw [h6]
    simp
theorem quiet_add {P : Program} {f : FuncId} {args : Array Value} {w : World} {a n : Nat} {v : Value}
    (h : Calls P f args (w.drewN (a + n)) fun e w' => e = .returned v ∧ ∃ m, w' = (w.drewN (a + n)).drewN m) :
    Calls P f args (w.drewN (a + n)) fun e w'' => e = .returned v ∧ ∃ m, w'' = w.drewN (a + m) :=
  h.mono fun _ _ ⟨he, m, hm⟩ => ⟨he, n + m, by rw [hm, World.drewN_drewN, Nat.add_assoc]⟩
theorem quiet_add_same {P : Program} {f : FuncId} {args : Array Value} {w : World} {a n : Nat} {v : Value}
    (h : Calls P f args (w.drewN (a + n)) fun e w' => e = .returned v ∧ w' = w.drewN (a + n)) :
    Calls P f args (w.drewN (a + n)) fun e w'' => e = .returned v ∧ ∃ m, w'' = w.drewN (a + m) :=
  h.mono fun _ _ ⟨he, hm⟩ => ⟨he, n, hm⟩
/-- append of one element, which lies in a new block of its own, onto a row of the call's own, behind a draw. -/
theorem wpList_append_one_drew {P : Program} (w : World) (u : Value) (e0 : TypeId) {ops : Array Oper} {rest : List Oper} {o : Oper} {a : Act} {Q : Exit → Act → World → Prop} (hgd : o.guard = none) (s x : Operand) (t : TypeId)
    (ho : o.op = .call { callee := .builtin .append, args := #[s, x], argTypes := #[t, t] })
    (base : Nat) (e : TypeId) (i : TypeInfo) (z : Value) (bytes : Nat) (ht : P.underlying t = some (.slice e)) (hi : P.info? e = some i) (hz : i.zero = some z)
    (hsize : i.size = 1) (hby : i.bytes = bytes) (hzs : z.cells.size = 1) (hu : u.oneCell' = true)
    (v : Value) (n : Nat) (xs : List Value) (hs : a.eval s = v) (hown : w.ownsRow base e 1 v n xs)
    (hx : a.eval x = .slice (some ⟨w.heap.size, 0, none⟩) 1 1)
    (h63 : n + 1 ≤ maxLen) (hb : (n + 1) * bytes ≤ 140737488355328) (hbase : base ≤ w.heap.size)
    (h : ∀ v' w', w'.ownsRow base e 1 v' (n + 1) (xs ++ [u]) → Below base w w' → wpList P ops Q rest (a.put o.dst v') w') : wpList P ops Q (o :: rest) a (w.alloc (.cells #[u] e0)).drew := by
  show wpList P ops Q (o :: rest) a ((w.drew).alloc (.cells #[u] e0))
  exact wpList_append_one w.drew u e0 hgd s x t ho base e i z bytes ht hi hz hsize hby hzs hu v n xs hs hown hx h63 hb hbase fun v' w' h1 h2 => h v' w' h1 ⟨h2.os, h2.tape, h2.output, h2.size, h2.block⟩
/-- The loops of a body, the outer ones first. -/
def loopsOf : Code → List Code
  | .loop c => c :: loopsOf c
  | .seq a b => loopsOf a ++ loopsOf b
  | .block _ c => loopsOf c
  | .scope c => loopsOf c
  | .cond _ a b => loopsOf a ++ loopsOf b
  | _ => []
theorem own_shape {w : World} {base n : Nat} {t : TypeId} {v : Value} {xs : List Value} (h : w.ownsRow base t 1 v n xs) : ∃ A c, v = .slice A n c := by
  rcases h.2 with ⟨rfl, rfl⟩ | ⟨g, c, _, rfl, _⟩
  · exact ⟨_, _, rfl⟩
  · exact ⟨_, _, rfl⟩
theorem own_mono {w : World} {base base' n : Nat} {t : TypeId} {v : Value} {xs : List Value} (h : w.ownsRow base t 1 v n xs) (hb : base' ≤ base) : w.ownsRow base' t 1 v n xs :=
  ⟨h.1, h.2.imp id fun ⟨g, cap, cur, h1, h2, h3⟩ => ⟨g, cap, cur, h1, Nat.le_trans hb h2, h3⟩⟩
theorem Blk.rd {w : World} {B : Nat} {t : TypeId} {xs : List UInt8} (h : Blk w B t (xs.map bv)) (n c : Nat) (hn : n ≤ xs.length) (hc : n ≤ c) (hm : c ≤ maxLen) : Rd w (.slice (some ⟨B, 0, none⟩) n c) (xs.take n) := by
  have hl : (xs.take n).length = n := by simp; omega
  refine .inr ⟨B, 0, c, by rw [hl], h.lt, by omega, hm, fun i hi => ?_⟩
  rw [hl] at hi
  rw [Nat.zero_add, h.cell i, List.getElem?_map, List.getElem?_eq_getElem (by omega)]
  simp [bv]
theorem made_one {z : Value} (hz : z.cells = #[z]) (n : Nat) : (madeCells z.cells (n * 1)).toList = List.replicate n z := by
  rw [hz, List.eq_replicate_iff]
  refine ⟨by simp [madeCells], fun b hb => ?_⟩
  simp only [madeCells, Array.toList_map, List.mem_map] at hb
  obtain ⟨x, _, rfl⟩ := hb
  have h : x % (#[z] : Array Value).size = 0 := by simp; omega
  rw [h]
  rfl
theorem run_slice_from {P : Program} (t e : TypeId) (i : TypeInfo) (ht : P.underlying t = some (.slice e)) (hi : P.info? e = some i) (h1 : i.size = 1) (T f n : Nat) (hf : f < n) (W : World) :
    (Instr.slice t (.slice (some ⟨T, 0, none⟩) n n) (some (.int .i64 (f : Int))) none none).run P W = .ok (.slice (some ⟨T, f, none⟩) (n - f) (n - f)) W := by
  have e1 : P.elem t = e := by simp [Program.elem, ht]
  have ht' : P.underlying t = some (.slice (P.elem t)) := by rw [e1]; exact ht
  rw [run_slice_l W t (some ⟨T, 0, none⟩) n n ht' .i64 (f : Int) (by omega) (by omega), e1, show (sizeOf e).run P W = .ok 1 W by simp [sizeOf, typeInfo, hi, h1]]
  have e5 : ¬ n = f := by omega
  simp [sliced, e5, Addr.add_mid]
theorem blk_of_own {w : World} {base g n : Nat} {t : TypeId} {xs : List Value} (h : w.ownsRow base t 1 (.slice (some ⟨g, 0, none⟩) n n) n xs) : Blk w g t xs := by
  rcases h.2 with ⟨h0, _⟩ | ⟨g', cap, cur, hv, hg, hh, hn, hc, hs, ht⟩
  · cases h0
  · injection hv with e1 e2 e3
    injection e1 with e1
    injection e1 with e1
    subst e1 e3
    have e : cur = xs.toArray := by
      rw [← ht, List.take_of_length_le (by simp [hs])]
    rw [e] at hh
    exact hh
/-- The value of a row of bytes that is an array. -/
def arrV (xs : List UInt8) : Value := .agg (xs.map bv).toArray
theorem ex_eq1 (x : List UInt8) : ∃ z, z = x := ⟨x, rfl⟩
theorem Sole.rd {w w' : World} {B : Nat} {v : Value} {xs : List UInt8} (h : Sole w w' B) (hr : Rd w v xs) (hne : 0 < xs.length → v.ownBlock ≠ some B) : Rd w' v xs := by
  rcases hr with h1 | ⟨b, off, c, rfl, h2, h3, h4, h5⟩
  · exact .inl h1
  · refine .inr ⟨b, off, c, rfl, by rw [h.size]; exact h2, h3, h4, fun i hi => ?_⟩
    have hb : b ≠ B := fun e => hne (by omega) (by rw [e]; rfl)
    rw [h.cell (p := ⟨b, off + i, none⟩) hb]
    exact h5 i hi
theorem own_ne {g k n c : Nat} (h : g ≠ k) : Value.ownBlock (.slice (some ⟨g, 0, none⟩) n c) ≠ some k := fun e => h (by simpa [Value.ownBlock] using e)
theorem own_lit1 {w : World} {base n : Nat} {e : TypeId} {u : Value} (hn : w.heap.size = n) (hb : base ≤ n) : (w.alloc (.cells #[u] e)).ownsRow base e 1 (.slice (some ⟨n, 0, none⟩) 1 1) 1 [u] := by
  subst hn
  exact World.ownsRow_lit w #[u] 1 hb (by unfold maxLen; omega) rfl
end Go.Proofs.YtmoffodmbbkolaaDoor

/- Words of 64 bits: slices of them. No condition of its own. -/
namespace Go.Proofs.YtmoffodmbbkolaaDoor
open Go.RowKit

theorem info_u64 : (Tryd.prog.info? 39).map (fun i => (i.zero, i.size, i.bytes)) = some (some (.int .u64 0), 1, 8) := by kernel_rfl
def wq (n : Nat) : Value := .int .u64 (n : Int)
theorem wq_one (ds : List Nat) : ∀ u ∈ ds.map wq, u.oneCell' = true := by
  intro u hu
  obtain ⟨b, _, rfl⟩ := List.mem_map.1 hu
  rfl
/-- The value v is a slice of uint64 at the head of a block, that reads as the numbers ds. -/
def Rq (w : World) (v : Value) (ds : List Nat) : Prop :=
  ∃ g c, v = .slice (some ⟨g, 0, none⟩) ds.length c ∧ ds.length ≤ c ∧ c ≤ maxLen ∧ g < w.heap.size ∧ ∀ i (_ : i < ds.length), w.cell? ⟨g, i, none⟩ = some (.int .u64 ((ds.getD i 0 : Nat) : Int))
theorem Rq.below {w w' : World} {v : Value} {ds : List Nat} (h : Rq w v ds) (hb : Below w.heap.size w w') : Rq w' v ds := by
  obtain ⟨g, c, h1, h2, h3, h4, h5⟩ := h
  exact ⟨g, c, h1, h2, h3, Nat.lt_of_lt_of_le h4 hb.size, fun i hi => (hb.cell (p := ⟨g, i, none⟩) h4).trans (h5 i hi)⟩
theorem rq_cell {w : World} {B : Nat} {t : TypeId} {ds : List Nat} (h : Blk w B t (ds.map wq)) {i : Nat} (hi : i < ds.length) : w.cell? ⟨B, i, none⟩ = some (.int .u64 ((ds.getD i 0 : Nat) : Int)) := by
  rw [h.cell i, List.getElem?_map, List.getElem?_eq_getElem hi, List.getD, List.getElem?_eq_getElem hi]
  rfl
theorem rq_of_blk {w : World} {B : Nat} {t : TypeId} {ds : List Nat} (h : Blk w B t (ds.map wq)) (c : Nat) (hc : ds.length ≤ c) (hm : c ≤ maxLen) : Rq w (.slice (some ⟨B, 0, none⟩) ds.length c) ds :=
  ⟨B, c, rfl, hc, hm, h.lt, fun _ hi => rq_cell h hi⟩
/-- A row of numbers of the call's own, whole. -/
def OwnQ (w : World) (t : TypeId) (P : List Nat → Prop) (e : Ending) (w' : World) : Prop := ∃ (B : Nat) (ds : List Nat), e = .returned (.slice (some ⟨B, 0, none⟩) ds.length ds.length) ∧ w.heap.size ≤ B ∧ Blk w' B t (ds.map wq) ∧ Below w.heap.size w w' ∧ P ds
end Go.Proofs.YtmoffodmbbkolaaDoor

/- The contracts of the reference's Lent and Kept: bytes with room behind them, and that both stand as they were. Conditions: at most 2^40 bytes. -/
namespace Go.Proofs.YtmoffodmbbkolaaDoor
open Go.RowKit

def room (xs : List UInt8) : List UInt8 := xs ++ List.replicate 8 165
theorem room_length (xs : List UInt8) : (room xs).length = xs.length + 8 := by simp [room]
theorem room_low {xs : List UInt8} {j : Nat} (h : j < xs.length) : (room xs)[j]? = some xs[j] := by
  unfold room
  rw [List.getElem?_append_left h, List.getElem?_eq_getElem h]
theorem room_high {xs : List UInt8} {j : Nat} (h : xs.length ≤ j) (h2 : j < xs.length + 8) : (room xs)[j]? = some 165 := by
  unfold room
  rw [List.getElem?_append_right h, List.getElem?_replicate, if_pos (by omega)]
/-- Block g holds the bytes xs and eight bytes of room. -/
def LentAt (w : World) (g : Nat) (xs : List UInt8) : Prop := w.heap[g]? = some (.cells ((room xs).map bv).toArray 5 (0, 0))
theorem LentAt.lt {w : World} {g : Nat} {xs : List UInt8} (h : LentAt w g xs) : g < w.heap.size := by
  rcases Nat.lt_or_ge g w.heap.size with h1 | h1
  · exact h1
  · unfold LentAt at h; rw [Array.getElem?_eq_none h1] at h; cases h
theorem LentAt.below {w w' : World} {g : Nat} {xs : List UInt8} (h : LentAt w g xs) (hb : Below w.heap.size w w') : LentAt w' g xs := (hb.block g h.lt).trans h
theorem LentAt.cell {w : World} {g : Nat} {xs : List UInt8} (h : LentAt w g xs) {j : Nat} {c : UInt8} (hj : (room xs)[j]? = some c) : w.cell? ⟨g, j, none⟩ = some (.int .u8 (c.toNat : Int)) := by
  rw [cell_of_row w g j _ _ _ h]
  simp [hj, bv]
theorem LentAt.rd {w : World} {g : Nat} {xs : List UInt8} (h : LentAt w g xs) (hl : xs.length ≤ 1000000000000) : Rd w (.slice (some ⟨g, 0, none⟩) xs.length (xs.length + 8)) xs := by
  refine .inr ⟨g, 0, xs.length + 8, rfl, h.lt, by omega, by unfold maxLen; omega, fun i hi => ?_⟩
  rw [Nat.zero_add]
  exact h.cell (room_low hi)

def LentPost (w : World) (xs : List UInt8) (e : Ending) (w' : World) : Prop :=
  ∃ g, e = .returned (.slice (some ⟨g, 0, none⟩) xs.length (xs.length + 8)) ∧ LentAt w' g xs ∧ w.heap.size ≤ g ∧ Below w.heap.size w w'
/-- The cells behind j rounds. -/
def lentC (xs : List UInt8) (j : Nat) : List Value := ((room xs).take j).map bv ++ List.replicate (xs.length + 8 - j) (.int .u8 0)
theorem lentC_length (xs : List UInt8) (j : Nat) (h : j ≤ xs.length + 8) : (lentC xs j).length = xs.length + 8 := by
  simp [lentC, room_length]
  omega
theorem lentC_set {xs : List UInt8} {j : Nat} {c : UInt8} (h : (room xs)[j]? = some c) : (lentC xs j).set j (.int .u8 (c.toNat : Int)) = lentC xs (j + 1) := by
  have hj : j < (room xs).length := by
    rcases Nat.lt_or_ge j (room xs).length with h1 | h1
    · exact h1
    · rw [List.getElem?_eq_none h1] at h; cases h
  have hc : (room xs)[j] = c := by rw [List.getElem?_eq_getElem hj] at h; exact Option.some.inj h
  rw [room_length] at hj
  unfold lentC
  rw [List.take_succ_eq_append_getElem (by rw [room_length]; exact hj), hc, List.map_append, show xs.length + 8 - j = (xs.length + 8 - (j + 1)) + 1 by omega, List.replicate_succ]
  rw [List.set_append_right _ _ (by simp [room_length]; omega)]
  have e : j - (List.map bv (List.take j (room xs))).length = 0 := by simp [room_length]; omega
  rw [e]
  simp [bv]
def LentRel (w : World) (g : Nat) (xs : List UInt8) (i : Value) (wr : World) : Prop :=
  ∃ j : Nat, i = .int .i64 j ∧ j ≤ xs.length + 8 ∧ wr.ownsRow w.heap.size 5 1 (.slice (some ⟨g, 0, none⟩) (xs.length + 8) (xs.length + 8)) (xs.length + 8) (lentC xs j) ∧ Below w.heap.size w wr

set_option maxRecDepth 100000 in
set_option maxHeartbeats 400000 in
theorem lent_any (v : Value) (xs : List UInt8) (w : World) (h : Rd w v xs) (hl : xs.length ≤ 1000000000000) :
    Calls Tryd.prog 8 #[v] w (LentPost w xs) := by
  obtain ⟨i0, hi, hz0, hz1, hz2⟩ := info_parts info_u8
  have HR := Lib.hid h
  obtain ⟨A, c, rfl, hc1, hc2, hA⟩ := h.form
  have HA := Lib.hid hA
  have HLL := Lib.hid hl
  unfold maxLen at hc2
  clear h hA
  go_enter Tryd.func8, Tryd.ntmps8
  go_wp2_with (at_make
               refine wpList_make_full _ rfl _ _ _ rfl w.heap.size 5 i0 _ 1 Tryd.underlying26 hi hz0 hz1 _ _ _ _ (xs.length + 8) rfl rfl ?_ ?_ ?_ ?_ (Nat.le_refl _) ?_
               · omega
               · omega
               · rw [hz2]; omega
               · unfold maxLen; omega
               intro w1 own1 g1)
  go_loopw [4] (fun i wr => LentRel w w.heap.size xs i wr) (fun i _ => xs.length + 8 - (intOf i).toNat)
  case atStart =>
    refine ⟨0, rfl, by omega, ?_, (Below.refl _ _).grown g1 (Nat.le_refl _) (by simp)⟩
    have e : lentC xs 0 = (madeCells (Value.int .u8 0).cells ((xs.length + 8) * 1)).toList := by rw [made_one rfl]; simp [lentC]
    rw [e]
    exact own1
  case round =>
    obtain ⟨j, rfl, hj, own2, hb2⟩ := hrel
    by_cases hlt : j < xs.length + 8
    · have hcell := own2.cellAt (g := w.heap.size) j (by omega)
      have hfr := own2.frozenAt (g := w.heap.size) j
      rw [List.getElem?_eq_getElem (by rw [lentC_length _ _ (by omega)]; omega)] at hcell
      have hst := fun u => own2.stored (g := w.heap.size) j u
      have HST := Lib.hid hst
      clear hst
      by_cases hlo : j < xs.length
      · obtain ⟨b, off, rfl, hb1, hb3⟩ := HA.out (by omega)
        have hc0 := hb2.cell (p := ⟨b, off + j, none⟩) hb1
        rw [hb3 j hlo] at hc0
        have HC : Hid ((room xs)[j]? = some xs[j]) := room_low hlo
        clear hb3
        go_wp2
        go_roundw
        case rel =>
          have h2 := HST.out (.int .u8 (xs[j].toNat : Int))
          rw [lentC_set HC.out] at h2
          exact ⟨j + 1, by go_num, by omega, h2.1, hb2.setCell (by simp) _⟩
        case measure => simp [intOf]; omega
      · have HC : Hid ((room xs)[j]? = some 165) := room_high (by omega) hlt
        go_wp2
        go_roundw
        case rel =>
          have h2 := HST.out (.int .u8 ((165 : UInt8).toNat : Int))
          rw [lentC_set HC.out] at h2
          exact ⟨j + 1, by go_num, by omega, h2.1, hb2.setCell (by simp) _⟩
        case measure => simp [intOf]; omega
    · obtain rfl : j = xs.length + 8 := by omega
      have HL : Hid (LentAt wr w.heap.size xs) := by
        rcases own2.2 with ⟨h0, _⟩ | ⟨g, cap, cur, hv, hg, hh, hn, hcm, hcs, ht⟩
        · cases h0
        · injection hv with e1 e2 e3
          injection e1 with e1
          injection e1 with e1
          subst e1 e3
          have hcur : cur.toList = lentC xs (xs.length + 8) := by
            rw [← ht]
            exact (List.take_of_length_le (by simp; omega)).symm
          have hl2 : lentC xs (xs.length + 8) = (room xs).map bv := by
            unfold lentC
            rw [Nat.sub_self, List.take_of_length_le (by rw [room_length]; omega)]
            simp
          show wr.heap[w.heap.size]? = some _
          rw [hh, ← hl2, ← hcur]
      clear own2
      go_wp2
      go_ret
      exact ⟨w.heap.size, rfl, HL.out, Nat.le_refl _, hb2⟩

theorem same_yes (va vb : Value) (xs : List UInt8) (w : World) (ha : Rd w va xs) (hb : Rd w vb xs) :
    Calls Tryd.prog 11 #[va, vb] w fun e w' => e = .returned (.bool true) ∧ ∃ n, w' = w.drewN n := by
  have h := same_any va vb xs xs w ha hb
  rw [decide_eq_true rfl] at h
  exact h
set_option maxRecDepth 100000 in
set_option maxHeartbeats 400000 in
theorem kept_any (g : Nat) (v : Value) (xs : List UInt8) (w : World) (hg : LentAt w g xs) (h : Rd w v xs) (hl : xs.length ≤ 1000000000000) :
    Calls Tryd.prog 13 #[.slice (some ⟨g, 0, none⟩) xs.length (xs.length + 8), v] w fun e w' => e = .returned (.bool true) ∧ ∃ n, w' = w.drewN n := by
  have HSame := Lib.hid (same_yes _ _ xs w (hg.rd hl) h)
  have HG := Lib.hid hg
  clear h hg
  go_enter Tryd.func13, Tryd.ntmps13
  go_wp2_with (fail)
  refine HSame.out.mono ?_
  rintro e w1 ⟨rfl, n1, rfl⟩
  go_wp2_with (fail)
  go_loop [6] (fun i => ∃ j : Nat, i = .int .i64 j ∧ xs.length ≤ j ∧ j ≤ xs.length + 8) (fun i => xs.length + 8 - (intOf i).toNat)
  case atStart => exact ⟨xs.length, rfl, by omega, by omega⟩
  case round =>
    obtain ⟨j, rfl, hj, hj2⟩ := hrel
    by_cases hlt : j < xs.length + 8
    · have hc : w.cell? ⟨g, j, none⟩ = some (.int .u8 165) := HG.out.cell (room_high hj hlt)
      go_wp2
      go_round
      case rel => exact ⟨j + 1, by go_num, by omega, by omega⟩
      case measure => simp [intOf]; omega
    · go_wp2
      go_ret
      exact ⟨rfl, n1, rfl⟩
end Go.Proofs.YtmoffodmbbkolaaDoor
