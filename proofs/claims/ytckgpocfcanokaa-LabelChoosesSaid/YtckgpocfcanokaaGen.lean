/- General words that more than one layer uses: rows of the call's own, blocks known whole, the loops of a body. No condition of its own. -/
import Derived.Test.YtckgpocfcanokaaRds
import Derived.Test.YtckgpocfcanokaaKept
import Derived.Laws.AppendOwnNone
namespace Go.Proofs.Ytckgpocfcanokaa
open Go.RowKit

theorem own_lain {w w' : World} {base : Nat} {t : TypeId} {v : Value} {n : Nat} {xs : List Value} (h : w.ownsRow base t 1 v n xs) (hb : Below w.heap.size w w') : w'.ownsRow base t 1 v n xs := by
  refine h.kept (row := none) ⟨hb.os, hb.tape, hb.output, hb.size, fun k hk _ => hb.block k hk⟩ ?_
  by_cases h0 : v.ownBlock = none
  · exact .inl h0
  · exact .inr h0
theorem own_form {w : World} {B : Nat} {t : TypeId} {v : Value} {n : Nat} {zs : List Value} (h : w.ownsRow B t 1 v n zs) (hn : 0 < n) : ∃ g c, v = .slice (some ⟨g, 0, none⟩) n c ∧ n ≤ c ∧ c ≤ maxLen := by
  rcases h.2 with ⟨_, h0⟩ | ⟨g, cp, cur, hv, _, _, h1, h2, _⟩
  · omega
  · exact ⟨g, cp, hv, h1, h2⟩
theorem Rd.cut {w : World} {g M c : Nat} {xs : List UInt8} (h : Rd w (.slice (some ⟨g, 0, none⟩) M c) xs) (a k : Nat) (hk : 0 < k) (hl : a + k ≤ xs.length) : Rd w (.slice (some ⟨g, a, none⟩) k (c - a)) ((xs.drop a).take k) := by
  rcases h with ⟨A', c', h1, h2, h3, rfl⟩ | ⟨b, off, c', h1, h2, h3, h4, h5⟩
  · simp at hl; omega
  · injection h1 with e1 e2 e3
    injection e1 with e1
    injection e1 with e4 e5
    subst e4 e5 e3
    have hl2 : ((xs.drop a).take k).length = k := by simp; omega
    refine .inr ⟨g, a, c - a, by rw [hl2], h2, by omega, by omega, fun i hi => ?_⟩
    rw [hl2] at hi
    have h6 := h5 (a + i) (by omega)
    rw [Nat.zero_add] at h6
    rw [h6]
    simp
theorem quiet_add {P : Program} {f : FuncId} {args : Array Value} {w : World} {a n : Nat} {v : Value}
    (h : Calls P f args (w.drewN (a + n)) fun e w' => e = .returned v ∧ ∃ m, w' = (w.drewN (a + n)).drewN m) :
    Calls P f args (w.drewN (a + n)) fun e w'' => e = .returned v ∧ ∃ m, w'' = w.drewN (a + m) :=
  h.mono fun _ _ ⟨he, m, hm⟩ => ⟨he, n + m, by rw [hm, World.drewN_drewN, Nat.add_assoc]⟩
theorem quiet_add_same {P : Program} {f : FuncId} {args : Array Value} {w : World} {a n : Nat} {v : Value}
    (h : Calls P f args (w.drewN (a + n)) fun e w' => e = .returned v ∧ w' = w.drewN (a + n)) :
    Calls P f args (w.drewN (a + n)) fun e w'' => e = .returned v ∧ ∃ m, w'' = w.drewN (a + m) :=
  h.mono fun _ _ ⟨he, hm⟩ => ⟨he, n, hm⟩
/-- append of one element, which lies in a new block of its own, onto a row of the call's own, behind a draw. -/
theorem wpList_append_one_drew {P : Program} (w : World) (u : Value) (e0 : TypeId) {ops : Array Oper} {rest : List Oper} {o : Oper} {a : Act} {Q : Exit → Act → World → Prop} (hgd : o.guard = none) (s x : Operand) (t : TypeId)
    (ho : o.op = .call { callee := .builtin .append, args := #[s, x], argTypes := #[t, t] })
    (base : Nat) (e : TypeId) (i : TypeInfo) (z : Value) (bytes : Nat) (ht : P.underlying t = some (.slice e)) (hi : P.info? e = some i) (hz : i.zero = some z)
    (hsize : i.size = 1) (hby : i.bytes = bytes) (hzs : z.cells.size = 1) (hu : u.oneCell' = true)
    (v : Value) (n : Nat) (xs : List Value) (hs : a.eval s = v) (hown : w.ownsRow base e 1 v n xs)
    (hx : a.eval x = .slice (some ⟨w.heap.size, 0, none⟩) 1 1)
    (h63 : n + 1 ≤ maxLen) (hb : (n + 1) * bytes ≤ 140737488355328) (hbase : base ≤ w.heap.size)
    (h : ∀ v' w', w'.ownsRow base e 1 v' (n + 1) (xs ++ [u]) → Below base w w' → wpList P ops Q rest (a.put o.dst v') w') : wpList P ops Q (o :: rest) a (w.alloc (.cells #[u] e0)).drew := by
  show wpList P ops Q (o :: rest) a ((w.drew).alloc (.cells #[u] e0))
  exact wpList_append_one w.drew u e0 hgd s x t ho base e i z bytes ht hi hz hsize hby hzs hu v n xs hs hown hx h63 hb hbase fun v' w' h1 h2 => h v' w' h1 ⟨h2.os, h2.tape, h2.output, h2.size, h2.block⟩
/-- The loops of a body, the outer ones first. -/
def loopsOf : Code → List Code
  | .loop c => c :: loopsOf c
  | .seq a b => loopsOf a ++ loopsOf b
  | .block _ c => loopsOf c
  | .scope c => loopsOf c
  | .cond _ a b => loopsOf a ++ loopsOf b
  | _ => []
theorem own_shape {w : World} {base n : Nat} {t : TypeId} {v : Value} {xs : List Value} (h : w.ownsRow base t 1 v n xs) : ∃ A c, v = .slice A n c := by
  rcases h.2 with ⟨rfl, rfl⟩ | ⟨g, c, _, rfl, _⟩
  · exact ⟨_, _, rfl⟩
  · exact ⟨_, _, rfl⟩
theorem own_mono {w : World} {base base' n : Nat} {t : TypeId} {v : Value} {xs : List Value} (h : w.ownsRow base t 1 v n xs) (hb : base' ≤ base) : w.ownsRow base' t 1 v n xs :=
  ⟨h.1, h.2.imp id fun ⟨g, cap, cur, h1, h2, h3⟩ => ⟨g, cap, cur, h1, Nat.le_trans hb h2, h3⟩⟩
theorem Blk.rd {w : World} {B : Nat} {t : TypeId} {xs : List UInt8} (h : Blk w B t (xs.map bv)) (n c : Nat) (hn : n ≤ xs.length) (hc : n ≤ c) (hm : c ≤ maxLen) : Rd w (.slice (some ⟨B, 0, none⟩) n c) (xs.take n) := by
  have hl : (xs.take n).length = n := by simp; omega
  refine .inr ⟨B, 0, c, by rw [hl], h.lt, by omega, hm, fun i hi => ?_⟩
  rw [hl] at hi
  rw [Nat.zero_add, h.cell i, List.getElem?_map, List.getElem?_eq_getElem (by omega)]
  simp [bv]
theorem made_one {z : Value} (hz : z.cells = #[z]) (n : Nat) : (madeCells z.cells (n * 1)).toList = List.replicate n z := by
  rw [hz, List.eq_replicate_iff]
  refine ⟨by simp [madeCells], fun b hb => ?_⟩
  simp only [madeCells, Array.toList_map, List.mem_map] at hb
  obtain ⟨x, _, rfl⟩ := hb
  have h : x % (#[z] : Array Value).size = 0 := by simp; omega
  rw [h]
  rfl
theorem run_slice_from {P : Program} (t e : TypeId) (i : TypeInfo) (ht : P.underlying t = some (.slice e)) (hi : P.info? e = some i) (h1 : i.size = 1) (T f n : Nat) (hf : f < n) (W : World) :
    (Instr.slice t (.slice (some ⟨T, 0, none⟩) n n) (some (.int .i64 (f : Int))) none none).run P W = .ok (.slice (some ⟨T, f, none⟩) (n - f) (n - f)) W := by
  have e1 : P.elem t = e := by simp [Program.elem, ht]
  have ht' : P.underlying t = some (.slice (P.elem t)) := by rw [e1]; exact ht
  rw [run_slice_l W t (some ⟨T, 0, none⟩) n n ht' .i64 (f : Int) (by omega) (by omega), e1, show (sizeOf e).run P W = .ok 1 W by simp [sizeOf, typeInfo, hi, h1]]
  have e5 : ¬ n = f := by omega
  simp [sliced, e5, Addr.add_mid]
theorem blk_of_own {w : World} {base g n : Nat} {t : TypeId} {xs : List Value} (h : w.ownsRow base t 1 (.slice (some ⟨g, 0, none⟩) n n) n xs) : Blk w g t xs := by
  rcases h.2 with ⟨h0, _⟩ | ⟨g', cap, cur, hv, hg, hh, hn, hc, hs, ht⟩
  · cases h0
  · injection hv with e1 e2 e3
    injection e1 with e1
    injection e1 with e1
    subst e1 e3
    have e : cur = xs.toArray := by
      rw [← ht, List.take_of_length_le (by simp [hs])]
    rw [e] at hh
    exact hh
/-- The value of a row of bytes that is an array. -/
def arrV (xs : List UInt8) : Value := .agg (xs.map bv).toArray
theorem ex_eq1 (x : List UInt8) : ∃ z, z = x := ⟨x, rfl⟩
theorem Sole.rd {w w' : World} {B : Nat} {v : Value} {xs : List UInt8} (h : Sole w w' B) (hr : Rd w v xs) (hne : 0 < xs.length → v.ownBlock ≠ some B) : Rd w' v xs := by
  rcases hr with h1 | ⟨b, off, c, rfl, h2, h3, h4, h5⟩
  · exact .inl h1
  · refine .inr ⟨b, off, c, rfl, by rw [h.size]; exact h2, h3, h4, fun i hi => ?_⟩
    have hb : b ≠ B := fun e => hne (by omega) (by rw [e]; rfl)
    rw [h.cell (p := ⟨b, off + i, none⟩) hb]
    exact h5 i hi
theorem own_ne {g k n c : Nat} (h : g ≠ k) : Value.ownBlock (.slice (some ⟨g, 0, none⟩) n c) ≠ some k := fun e => h (by simpa [Value.ownBlock] using e)
theorem own_lit1 {w : World} {base n : Nat} {e : TypeId} {u : Value} (hn : w.heap.size = n) (hb : base ≤ n) : (w.alloc (.cells #[u] e)).ownsRow base e 1 (.slice (some ⟨n, 0, none⟩) 1 1) 1 [u] := by
  subst hn
  exact World.ownsRow_lit w #[u] 1 hb (by unfold maxLen; omega) rfl
end Go.Proofs.Ytckgpocfcanokaa
