/- Words for the second reference's Sum: slices of uint32, the states at the heads of its loops, its constants. No condition of its own. -/
import Derived.Test.YtpjidfcbckndfaaDoorShaMath
import Derived.Deep.RegionHeld3
import Derived.Deep.DeepCutAuto
import Derived.StillTailTactics
import Derived.Laws.BitsAllLaws
namespace Go.Proofs.YtpjidfcbckndfaaDoor
open Go.RowKit

theorem info_w32 : (Tryd.prog.info? 49).map (fun i => (i.zero, i.size, i.bytes)) = some (some (.int .u32 0), 1, 4) := by kernel_rfl
def wv (n : Nat) : Value := .int .u32 (n : Int)
/-- The value v is a slice of uint32 at the head of a block, that reads as the words ds. -/
def Rw (w : World) (v : Value) (ds : List Nat) : Prop :=
  ∃ g c, v = .slice (some ⟨g, 0, none⟩) ds.length c ∧ ds.length ≤ c ∧ c ≤ maxLen ∧ g < w.heap.size ∧ ∀ i (h : i < ds.length), w.cell? ⟨g, i, none⟩ = some (.int .u32 ((ds[i] : Nat) : Int))
theorem Rw.below {w w' : World} {v : Value} {ds : List Nat} (h : Rw w v ds) (hb : Below w.heap.size w w') : Rw w' v ds := by
  obtain ⟨g, c, h1, h2, h3, h4, h5⟩ := h
  exact ⟨g, c, h1, h2, h3, Nat.lt_of_lt_of_le h4 hb.size, fun i hi => (hb.cell (p := ⟨g, i, none⟩) h4).trans (h5 i hi)⟩
theorem Rw.drewN {w : World} {v : Value} {ds : List Nat} (h : Rw w v ds) (n : Nat) : Rw (w.drewN n) v ds := h
theorem rw_lit {w : World} {t : TypeId} {ds : List Nat} (hl : ds.length ≤ 1000) : Rw (w.alloc (.cells (ds.map wv).toArray t)) (.slice (some ⟨w.heap.size, 0, none⟩) ds.length ds.length) ds := by
  refine ⟨w.heap.size, ds.length, rfl, by omega, by unfold maxLen; omega, by simp, fun i hi => ?_⟩
  rw [World.cell?_alloc_new]
  simp [hi, wv]

set_option maxRecDepth 100000 in
set_option maxHeartbeats 400000 in
theorem constants_any (w : World) :
    Calls Tryd.prog 24 #[] w fun e w' => ∃ v, e = .returned v ∧ Rw w' v kT ∧ Below w.heap.size w w' := by
  go_enter Tryd.func24, Tryd.ntmps24
  go_wp2
  go_ret
  exact ⟨_, rfl, rw_lit (ds := kT) (by simp [kT]), by go_grown⟩

def slLen : Value → Nat
  | .slice _ n _ => n
  | _ => 0
/-- The bytes behind which blocks are whole. -/
def PadRel (w : World) (B : Nat) (xs : List UInt8) (v : Value) (wr : World) : Prop :=
  ∃ j g c : Nat, v = .slice (some ⟨g, 0, none⟩) (xs.length + 1 + j) c ∧ j ≤ padN xs.length ∧ wr.ownsRow B 5 1 v (xs.length + 1 + j) ((xs ++ [128] ++ List.replicate j 0).map bv) ∧ Below B w wr ∧ xs.length + 1 + j ≤ c ∧ c ≤ maxLen
theorem own_lain {w w' : World} {base : Nat} {t : TypeId} {v : Value} {n : Nat} {xs : List Value} (h : w.ownsRow base t 1 v n xs) (hb : Below w.heap.size w w') : w'.ownsRow base t 1 v n xs := by
  refine h.kept (row := none) ⟨hb.os, hb.tape, hb.output, hb.size, fun k hk _ => hb.block k hk⟩ ?_
  by_cases h0 : v.ownBlock = none
  · exact .inl h0
  · exact .inr h0
theorem own_form {w : World} {B : Nat} {t : TypeId} {v : Value} {n : Nat} {zs : List Value} (h : w.ownsRow B t 1 v n zs) (hn : 0 < n) : ∃ g c, v = .slice (some ⟨g, 0, none⟩) n c ∧ n ≤ c ∧ c ≤ maxLen := by
  rcases h.2 with ⟨_, h0⟩ | ⟨g, cp, cur, hv, _, _, h1, h2, _⟩
  · omega
  · exact ⟨g, cp, hv, h1, h2⟩
theorem padRel_mk {w wr : World} {B : Nat} {xs : List UInt8} {v : Value} {j : Nat} (hj : j ≤ padN xs.length) (h : wr.ownsRow B 5 1 v (xs.length + 1 + j) ((xs ++ [128] ++ List.replicate j 0).map bv)) (hb : Below B w wr) : PadRel w B xs v wr := by
  obtain ⟨g, c, hv, h1, h2⟩ := own_form h (by omega)
  exact ⟨j, g, c, hv, hj, h, hb, h1, h2⟩

/-- The state at the head of the loop over blocks. -/
def BlkRel (w : World) (m : List UInt8) (h at_ : Value) (wr : World) : Prop :=
  ∃ q : Nat, at_ = .int .i64 (64 * (q : Int)) ∧ 64 * q ≤ m.length ∧ Rw wr h (blocks m q).list ∧ Below w.heap.size w wr
def Out0 (W : World) (b : Nat) (t : TypeId) : Prop := W.heap[b]? = some (.cells (List.replicate 32 (.int .u8 0)).toArray t)
theorem first_list (m : List UInt8) : (blocks m 0).list = h0T := rfl

theorem Rd.cut {w : World} {g M c : Nat} {xs : List UInt8} (h : Rd w (.slice (some ⟨g, 0, none⟩) M c) xs) (a k : Nat) (hk : 0 < k) (hl : a + k ≤ xs.length) : Rd w (.slice (some ⟨g, a, none⟩) k (c - a)) ((xs.drop a).take k) := by
  rcases h with ⟨A', c', h1, h2, h3, rfl⟩ | ⟨b, off, c', h1, h2, h3, h4, h5⟩
  · simp at hl; omega
  · injection h1 with e1 e2 e3
    injection e1 with e1
    injection e1 with e4 e5
    subst e4 e5 e3
    have hl2 : ((xs.drop a).take k).length = k := by simp; omega
    refine .inr ⟨g, a, c - a, by rw [hl2], h2, by omega, by omega, fun i hi => ?_⟩
    rw [hl2] at hi
    have h6 := h5 (a + i) (by omega)
    rw [Nat.zero_add] at h6
    rw [h6]
    simp
/-- The state at the head of the loop over a block's words. -/
def WordsRel (m : List UInt8) (p : Nat) (wB : World) (ws i : Value) (wr : World) : Prop :=
  ∃ j : Nat, i = .int .i64 (j : Int) ∧ j ≤ 16 ∧ wr.ownsRow wB.heap.size 49 1 ws j ((wordsAt m p j).map wv) ∧ Below wB.heap.size wB wr

/-- The state at the head of the loop over the further words. -/
def SchedRel (ws : List Nat) (wB : World) (v i : Value) (wr : World) : Prop :=
  ∃ k g c : Nat, i = .int .i64 (k : Int) ∧ 16 ≤ k ∧ k ≤ 64 ∧ v = .slice (some ⟨g, 0, none⟩) k c ∧ wr.ownsRow wB.heap.size 49 1 v k ((schedN (k - 16) ws).map wv) ∧ Below wB.heap.size wB wr ∧ k ≤ c ∧ c ≤ maxLen
theorem schedRel_mk {ws : List Nat} {wB wr : World} {v : Value} {k : Nat} (h1 : 16 ≤ k) (h2 : k ≤ 64) (h : wr.ownsRow wB.heap.size 49 1 v k ((schedN (k - 16) ws).map wv)) (hb : Below wB.heap.size wB wr) : SchedRel ws wB v (.int .i64 (k : Int)) wr := by
  obtain ⟨g, c, hv, e1, e2⟩ := own_form h (by omega)
  exact ⟨k, g, c, rfl, h1, h2, hv, h, hb, e1, e2⟩
theorem word_at {wr : World} {B k g c j : Nat} {ds : List Nat} (hlt : ∀ x ∈ ds, x < 4294967296) (h : wr.ownsRow B 49 1 (.slice (some ⟨g, 0, none⟩) k c) k (ds.map wv)) (hl : ds.length = k) (hj : j < k) :
    ∃ a : Nat, wr.cell? ⟨g, j, none⟩ = some (.int .u32 (a : Int)) ∧ (a : Int) ≤ 4294967295 ∧ ds.getD j 0 = a := by
  have hj' : j < ds.length := by omega
  refine ⟨ds[j], ?_, by have := hlt _ (List.getElem_mem hj'); omega, by simp [hj']⟩
  rw [h.cellAt j (by omega), List.getElem?_map, List.getElem?_eq_getElem hj']
  rfl
theorem turn_q (n k : Nat) (K : Int) (hK : K = (k : Int)) (w : World) (hn : n < 4294967296) (hk : k ≤ 32) : Calls Tryd.prog 26 #[.int .u32 n, .int .i64 K] w fun e w' => e = .returned (.int .u32 (rotN k n : Nat)) ∧ w' = w :=
  hK ▸ (turn_any n k w hn hk).mono fun _ _ h => ⟨h.1, h.2.symm⟩
theorem cut_q (n k : Nat) (K : Int) (hK : K = (k : Int)) (w : World) (hn : n < 4294967296) (hk : k ≤ 32) : Calls Tryd.prog 27 #[.int .u32 n, .int .i64 K] w fun e w' => e = .returned (.int .u32 (cutN k n : Nat)) ∧ w' = w :=
  hK ▸ (cut_any n k w hn hk).mono fun _ _ h => ⟨h.1, h.2.symm⟩
theorem sg0_bits {x : Nat} (h : x < 4294967296) : bits .xor .u32 (bits .xor .u32 ((rotN 7 x : Nat) : Int) ((rotN 18 x : Nat) : Int)) ((cutN 3 x : Nat) : Int) = ((sg0 x : Nat) : Int) := by
  rw [u32_xor_nat _ _ (rotN_lt h _) (rotN_lt h _), u32_xor_nat _ _ (xor_lt32 (rotN_lt h _) (rotN_lt h _)) (cutN_lt h _)]; rfl
theorem sg1_bits {x : Nat} (h : x < 4294967296) : bits .xor .u32 (bits .xor .u32 ((rotN 17 x : Nat) : Int) ((rotN 19 x : Nat) : Int)) ((cutN 10 x : Nat) : Int) = ((sg1 x : Nat) : Int) := by
  rw [u32_xor_nat _ _ (rotN_lt h _) (rotN_lt h _), u32_xor_nat _ _ (xor_lt32 (rotN_lt h _) (rotN_lt h _)) (cutN_lt h _)]; rfl
theorem Sg0_bits {x : Nat} (h : x < 4294967296) : bits .xor .u32 (bits .xor .u32 ((rotN 2 x : Nat) : Int) ((rotN 13 x : Nat) : Int)) ((rotN 22 x : Nat) : Int) = ((Sg0 x : Nat) : Int) := by
  rw [u32_xor_nat _ _ (rotN_lt h _) (rotN_lt h _), u32_xor_nat _ _ (xor_lt32 (rotN_lt h _) (rotN_lt h _)) (rotN_lt h _)]; rfl
theorem Sg1_bits {x : Nat} (h : x < 4294967296) : bits .xor .u32 (bits .xor .u32 ((rotN 6 x : Nat) : Int) ((rotN 11 x : Nat) : Int)) ((rotN 25 x : Nat) : Int) = ((Sg1 x : Nat) : Int) := by
  rw [u32_xor_nat _ _ (rotN_lt h _) (rotN_lt h _), u32_xor_nat _ _ (xor_lt32 (rotN_lt h _) (rotN_lt h _)) (rotN_lt h _)]; rfl
theorem maj_bits {a b c : Nat} (ha : a < 4294967296) (hb : b < 4294967296) (hc : c < 4294967296) : bits .xor .u32 (bits .xor .u32 (bits .and .u32 (a : Int) (b : Int)) (bits .and .u32 (a : Int) (c : Int))) (bits .and .u32 (b : Int) (c : Int)) = ((majN a b c : Nat) : Int) := by
  rw [u32_and_nat _ _ ha hb, u32_and_nat _ _ ha hc, u32_and_nat _ _ hb hc, u32_xor_nat _ _ (and_lt32 ha) (and_lt32 ha), u32_xor_nat _ _ (xor_lt32 (and_lt32 ha) (and_lt32 ha)) (and_lt32 hb)]; rfl
theorem turn_any' (n k : Nat) (K : Int) (hK : K = (k : Int)) (w : World) (hn : n < 4294967296) (hk : k ≤ 32) : Calls Tryd.prog 26 #[.int .u32 n, .int .i64 K] w fun e w' => e = .returned (.int .u32 (rotN k n : Nat)) ∧ w = w' := hK ▸ turn_any n k w hn hk
theorem ch_bits {e f g : Nat} (he : e < 4294967296) (hf : f < 4294967296) (hg : g < 4294967296) : bits .xor .u32 (bits .and .u32 (e : Int) (f : Int)) (bits .and .u32 (4294967295 - (e : Int)) (g : Int)) = ((chN e f g : Nat) : Int) := by
  rw [show (4294967295 : Int) - (e : Int) = ((4294967295 - e : Nat) : Int) by omega, u32_and_nat _ _ he hf, u32_and_nat _ _ (by omega) hg, u32_xor_nat _ _ (and_lt32 he) (and_lt32 (by omega))]; rfl
theorem list_lt {s : St} (h : s.ok) : ∀ x ∈ s.list, x < 4294967296 := by
  obtain ⟨h1, h2, h3, h4, h5, h6, h7, h8⟩ := h
  intro x hx
  simp only [St.list, List.mem_cons, List.not_mem_nil, or_false] at hx
  rcases hx with rfl | rfl | rfl | rfl | rfl | rfl | rfl | rfl <;> assumption
theorem rw_of_own {w : World} {B n : Nat} {v : Value} {ds : List Nat} (h : w.ownsRow B 49 1 v n (ds.map wv)) (hn : 0 < n) : Rw w v ds := by
  obtain ⟨g, c, rfl, h1, h2⟩ := own_form h hn
  have hl : ds.length = n := by simpa using h.1
  refine ⟨g, c, by rw [hl], by omega, h2, (h.lt g rfl).2, fun i hi => ?_⟩
  rw [h.cellAt i (by omega), List.getElem?_map, List.getElem?_eq_getElem hi]
  rfl
theorem kT_lt : ∀ x ∈ kT, x < 4294967296 := by decide +kernel
theorem quiet_add {P : Program} {f : FuncId} {args : Array Value} {w : World} {a n : Nat} {v : Value}
    (h : Calls P f args (w.drewN (a + n)) fun e w' => e = .returned v ∧ ∃ m, w' = (w.drewN (a + n)).drewN m) :
    Calls P f args (w.drewN (a + n)) fun e w'' => e = .returned v ∧ ∃ m, w'' = w.drewN (a + m) :=
  h.mono fun _ _ ⟨he, m, hm⟩ => ⟨he, n + m, by rw [hm, World.drewN_drewN, Nat.add_assoc]⟩
theorem quiet_add_same {P : Program} {f : FuncId} {args : Array Value} {w : World} {a n : Nat} {v : Value}
    (h : Calls P f args (w.drewN (a + n)) fun e w' => e = .returned v ∧ w' = w.drewN (a + n)) :
    Calls P f args (w.drewN (a + n)) fun e w'' => e = .returned v ∧ ∃ m, w'' = w.drewN (a + m) :=
  h.mono fun _ _ ⟨he, hm⟩ => ⟨he, n, hm⟩
/-- append of one element, which lies in a new block of its own, onto a row of the call's own, behind a draw. -/
theorem wpList_append_one_drew {P : Program} (w : World) (u : Value) (e0 : TypeId) {ops : Array Oper} {rest : List Oper} {o : Oper} {a : Act} {Q : Exit → Act → World → Prop} (hgd : o.guard = none) (s x : Operand) (t : TypeId)
    (ho : o.op = .call { callee := .builtin .append, args := #[s, x], argTypes := #[t, t] })
    (base : Nat) (e : TypeId) (i : TypeInfo) (z : Value) (bytes : Nat) (ht : P.underlying t = some (.slice e)) (hi : P.info? e = some i) (hz : i.zero = some z)
    (hsize : i.size = 1) (hby : i.bytes = bytes) (hzs : z.cells.size = 1) (hu : u.oneCell' = true)
    (v : Value) (n : Nat) (xs : List Value) (hs : a.eval s = v) (hown : w.ownsRow base e 1 v n xs)
    (hx : a.eval x = .slice (some ⟨w.heap.size, 0, none⟩) 1 1)
    (h63 : n + 1 ≤ maxLen) (hb : (n + 1) * bytes ≤ 140737488355328) (hbase : base ≤ w.heap.size)
    (h : ∀ v' w', w'.ownsRow base e 1 v' (n + 1) (xs ++ [u]) → Below base w w' → wpList P ops Q rest (a.put o.dst v') w') : wpList P ops Q (o :: rest) a (w.alloc (.cells #[u] e0)).drew := by
  show wpList P ops Q (o :: rest) a ((w.drew).alloc (.cells #[u] e0))
  exact wpList_append_one w.drew u e0 hgd s x t ho base e i z bytes ht hi hz hsize hby hzs hu v n xs hs hown hx h63 hb hbase fun v' w' h1 h2 => h v' w' h1 ⟨h2.os, h2.tape, h2.output, h2.size, h2.block⟩
/-- The loops of a body, the outer ones first. -/
def loopsOf : Code → List Code
  | .loop c => c :: loopsOf c
  | .seq a b => loopsOf a ++ loopsOf b
  | .block _ c => loopsOf c
  | .scope c => loopsOf c
  | .cond _ a b => loopsOf a ++ loopsOf b
  | _ => []
end Go.Proofs.YtpjidfcbckndfaaDoor
