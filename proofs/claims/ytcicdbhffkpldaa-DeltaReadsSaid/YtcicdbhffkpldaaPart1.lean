/- Part 1 of the words that the laws share: Mem, PcSpec, ShB, Same, Lit. No condition of its own: each theorem says its own. -/
import Derived.Test.YtcicdbhffkpldaaRows
import Derived.WalkKit
import Derived.WalkSpells
import Derived.WalkLawsBesides
import Derived.BigGuardPart
import Derived.Lib.Hide
import Derived.Handy
import Derived.Deep.QuietTactic
import Derived.BigQuiet
import Derived.Deep.Draws
import Derived.Deep.AppendLies
import Derived.Laws.AppendOwnNone

/- Words for slices of bytes in memory: what a slice of bytes reads as, kept over draws, new blocks and whatever leaves old blocks alone. No condition of its own. -/
namespace Go.Proofs.Ytcicdbhffkpldaa
open Go.RowKit

/-- The value of a byte. -/
def bv (b : UInt8) : Value := .int .u8 (b.toNat : Int)
theorem bv_one : ∀ (xs : List UInt8), ∀ u ∈ xs.map bv, u.oneCell' = true := by
  intro xs u hu
  obtain ⟨b, _, rfl⟩ := List.mem_map.1 hu
  rfl

/-- The slice v reads as the bytes xs. -/
def Rd (w : World) (v : Value) (xs : List UInt8) : Prop :=
  (∃ A c, v = .slice A 0 c ∧ c ≤ maxLen ∧ (A = none → c = 0) ∧ xs = []) ∨
  ∃ b off c, v = .slice (some ⟨b, off, none⟩) xs.length c ∧ b < w.heap.size ∧ xs.length ≤ c ∧ c ≤ maxLen ∧ ∀ i (h : i < xs.length), w.cell? ⟨b, off + i, none⟩ = some (.int .u8 ((xs[i]).toNat : Int))

theorem Rd.keep {w w' : World} {v : Value} {xs : List UInt8} (h : Rd w v xs) (hs : w.heap.size ≤ w'.heap.size) (hk : ∀ p : Addr, p.block < w.heap.size → w'.cell? p = w.cell? p) : Rd w' v xs := by
  rcases h with h | ⟨b, off, c, h1, h2, h3, h4, h5⟩
  · exact .inl h
  · exact .inr ⟨b, off, c, h1, by omega, h3, h4, fun i hi => (hk _ h2).trans (h5 i hi)⟩
theorem Rd.below {w w' : World} {v : Value} {xs : List UInt8} (h : Rd w v xs) (hb : Below w.heap.size w w') : Rd w' v xs := h.keep hb.size fun _ hp => hb.cell hp
theorem Rd.drewN {w : World} {v : Value} {xs : List UInt8} (h : Rd w v xs) (n : Nat) : Rd (w.drewN n) v xs := h
theorem Rd.drew {w : World} {v : Value} {xs : List UInt8} (h : Rd w v xs) : Rd w.drew v xs := h
theorem Rd.alloc {w : World} {v : Value} {xs : List UInt8} (h : Rd w v xs) (o : Obj) : Rd (w.alloc o) v xs := h.keep (by simp) fun p hp => World.cell?_alloc_lt w o p hp
theorem Rd.nil (w : World) : Rd w (.slice none 0 0) [] := .inl ⟨none, 0, rfl, by simp, fun _ => rfl, rfl⟩
/-- As a slice with an address that is asked for only where there is an element. -/
theorem Rd.form {w : World} {v : Value} {xs : List UInt8} (h : Rd w v xs) : ∃ A c, v = .slice A xs.length c ∧ xs.length ≤ c ∧ c ≤ maxLen ∧
    (0 < xs.length → ∃ b off, A = some ⟨b, off, none⟩ ∧ b < w.heap.size ∧ ∀ i (h : i < xs.length), w.cell? ⟨b, off + i, none⟩ = some (.int .u8 ((xs[i]).toNat : Int))) := by
  rcases h with ⟨A, c, rfl, hc, _, rfl⟩ | ⟨b, off, c, h1, h2, h3, h4, h5⟩
  · exact ⟨A, c, rfl, by simp, hc, fun h => by simp at h⟩
  · exact ⟨_, c, h1, h3, h4, fun _ => ⟨b, off, rfl, h2, h5⟩⟩
theorem Rd.of_own {w : World} {base : Nat} {t : TypeId} {v : Value} {n : Nat} {xs : List UInt8} (h : w.ownsRow base t 1 v n (xs.map bv)) : Rd w v xs := by
  have hl : xs.length = n := by simpa using h.1
  rcases h.2 with ⟨rfl, h0⟩ | ⟨g, cap, cur, rfl, hg, hh, hn, hc, hs, ht⟩
  · exact .inl ⟨none, 0, rfl, by simp, fun _ => rfl, List.eq_nil_of_length_eq_zero (by omega)⟩
  · refine .inr ⟨g, 0, cap, by rw [hl], ?_, by omega, hc, fun i hi => ?_⟩
    · rcases Nat.lt_or_ge g w.heap.size with h1 | h1
      · exact h1
      · rw [Array.getElem?_eq_none h1] at hh; cases hh
    · have h2 := h.cellAt (g := g) i (by omega)
      rw [Nat.zero_add, h2, List.getElem?_map, List.getElem?_eq_getElem hi]
      rfl
/-- The world after a call that leaves all that was there. -/
def Fresh (w : World) (ys : List UInt8) (e : Ending) (w' : World) : Prop := ∃ v, e = .returned v ∧ Rd w' v ys ∧ Below w.heap.size w w'
/-- The same, and the row is the call's own. -/
def Own (w : World) (t : TypeId) (ys : List UInt8) (e : Ending) (w' : World) : Prop := ∃ v, e = .returned v ∧ w'.ownsRow w.heap.size t 1 v ys.length (ys.map bv) ∧ Below w.heap.size w w'
theorem Own.fresh {w : World} {t : TypeId} {ys : List UInt8} {e : Ending} {w' : World} (h : Own w t ys e w') : Fresh w ys e w' := by
  obtain ⟨v, h1, h2, h3⟩ := h
  exact ⟨v, h1, Rd.of_own h2, h3⟩
theorem below_drewN {B : Nat} {a w : World} (h : Below B a w) (n : Nat) : Below B a (w.drewN n) := ⟨h.os, h.tape, h.output, h.size, h.block⟩
theorem ret_b {a b : Bool} (h : a = b) : Ending.returned (.bool a) = .returned (.bool b) := by rw [h]
theorem ret_i {k : IntKind} {a b : Int} (h : a = b) : Ending.returned (.int k a) = .returned (.int k b) := by rw [h]
theorem ret_ii {k l : IntKind} {a b c d : Int} (h : a = c) (h' : b = d) : Ending.returned (.tuple #[.int k a, .int l b]) = .returned (.tuple #[.int k c, .int l d]) := by rw [h, h']

/-- append onto a row of the call's own, from whatever reads as bytes. -/
theorem wpList_append_rd {P : Program} (w : World) {ops : Array Oper} {rest : List Oper} {o : Oper} {a : Act} {Q : Exit → Act → World → Prop} (hgd : o.guard = none) (s x : Operand) (t : TypeId)
    (ho : o.op = .call { callee := .builtin .append, args := #[s, x], argTypes := #[t, t] })
    (base : Nat) (e : TypeId) (i : TypeInfo) (z : Value) (ht : P.underlying t = some (.slice e)) (hi : P.info? e = some i) (hz : i.zero = some z)
    (hsize : i.size = 1) (hby : i.bytes = 1) (hzs : z.cells.size = 1)
    (v : Value) (n : Nat) (xs : List Value) (hs : a.eval s = v) (hown : w.ownsRow base e 1 v n xs)
    (vx : Value) (ys : List UInt8) (hx : a.eval x = vx) (hr : Rd w vx ys)
    (hb : n + ys.length ≤ 140737488355328) (hbase : base ≤ w.heap.size)
    (h : ∀ v' w', w'.ownsRow base e 1 v' (n + ys.length) (xs ++ ys.map bv) → w.grownBy w' v.ownBlock → wpList P ops Q rest (a.put o.dst v') w') : wpList P ops Q (o :: rest) a w := by
  rcases hr with ⟨A, c, rfl, hc, hA, rfl⟩ | ⟨b, off, c, h1, h2, h3, h4, h5⟩
  · rcases A with _ | ad
    · rw [hA rfl] at hx
      exact wpList_append_own_none hgd s x t ho base e i 1 ht hi v n xs hs hown hx (h v w (by simpa using hown) (World.grownBy.refl w _))
    · exact wpList_append_own w hgd s x t ho base e i z 1 1 ht hi hz hsize hby hzs (by omega) v n xs hs hown ad 0 c [] hx (by simp) (by simp) (by simp) (by unfold maxLen; simp at hb; omega) (by simp at hb; omega) hbase fun v' w' k1 k2 _ => h v' w' (by simpa using k1) k2
  · refine wpList_append_own w hgd s x t ho base e i z 1 1 ht hi hz hsize hby hzs (by omega) v n xs hs hown ⟨b, off, none⟩ ys.length c (ys.map bv) (by rw [hx, h1]) (by simp) ?_ (bv_one ys) (by unfold maxLen; omega) (by omega) hbase fun v' w' k1 k2 _ => h v' w' k1 k2
    intro j u hu
    rw [List.getElem?_map] at hu
    by_cases hj : j < ys.length
    · rw [List.getElem?_eq_getElem hj] at hu
      obtain rfl : bv ys[j] = u := by simpa using hu
      have h6 := h5 j hj
      by_cases h0 : j = 0
      · subst h0; simpa [Addr.add, bv] using h6
      · simpa [Addr.add, h0, bv] using h6
    · rw [List.getElem?_eq_none (by omega)] at hu
      simp at hu
theorem own_ge {w : World} {base : Nat} {t : TypeId} {v : Value} {n : Nat} {xs : List Value} (h : w.ownsRow base t 1 v n xs) : ∀ k, v.ownBlock = some k → base ≤ k := fun k hk => (h.lt k hk).1
theorem rd_one {w : World} {t : TypeId} {z : Int} {b : UInt8} (hz : z = (b.toNat : Int)) : Rd (w.alloc (.cells #[.int .u8 z] t)) (.slice (some ⟨w.heap.size, 0, none⟩) 1 1) [b] := by
  subst hz
  refine .inr ⟨w.heap.size, 0, 1, rfl, by simp, by simp, by unfold maxLen; omega, fun i hi => ?_⟩
  obtain rfl : i = 0 := by simpa using hi
  simp
theorem info_u8 : (Try.prog.info? 5).map (fun i => (i.zero, i.size, i.bytes)) = some (some (.int .u8 0), 1, 1) := by kernel_rfl

/-- A slice of bytes that came in reads as bytes. -/
theorem rd_of_row {W : World} {x : Addr} {l c : Nat} {zs : List Int} (hl : l ≤ c) (hm : c ≤ maxLen) (hz : zs.length = c) (hcell : ∀ i, i < zs.length → W.cell? (x.add i) = some (.int .u8 (zs.getD i 0))) (hwz : ∀ n ∈ zs, (Lit.int .u8 n).wf = true) :
    ∃ xs, Rd W (.slice (some x) l c) xs := by
  by_cases h0 : l = 0
  · subst h0
    exact ⟨[], .inl ⟨some x, c, rfl, hm, (fun h => by cases h), rfl⟩⟩
  · obtain ⟨b, off, spot⟩ := x
    have h1 := hcell 0 (by omega)
    have hs : spot = none := by simpa [Addr.add] using World.cell?_spot h1
    subst hs
    have h1' : W.cell? ⟨b, off, none⟩ = some (.int .u8 (zs.getD 0 0)) := by simpa [Addr.add] using h1
    have hlen : ((zs.take l).map fun z => UInt8.ofNat z.toNat).length = l := by simp; omega
    refine ⟨(zs.take l).map fun z => UInt8.ofNat z.toNat, .inr ⟨b, off, c, by rw [hlen], World.block_lt_of_cell? W _ h1', by rw [hlen]; exact hl, hm, fun i hi => ?_⟩⟩
    rw [hlen] at hi
    have h2 := hcell i (by omega)
    have e1 : ((⟨b, off, none⟩ : Addr).add i) = ⟨b, off + i, none⟩ := by
      by_cases hi0 : i = 0
      · subst hi0; rfl
      · simp [Addr.add, hi0]
    have e2 : zs.getD i 0 = zs[i]'(by omega) := by simp [List.getD, List.getElem?_eq_getElem (show i < zs.length by omega)]
    rw [e1, e2] at h2
    have hw := bounds_u8 (hwz (zs[i]'(by omega)) (List.getElem_mem _))
    rw [h2]
    congr 2
    simp only [List.getElem_map, List.getElem_take, UInt8.toNat_ofNat']
    omega
theorem Rd.take {w : World} {A : Option Addr} {n c : Nat} {xs : List UInt8} (h : Rd w (.slice A n c) xs) {k : Nat} (hk : k ≤ xs.length) : Rd w (.slice A k c) (xs.take k) := by
  rcases h with ⟨A', c', h1, h2, h3, rfl⟩ | ⟨b, off, c', h1, h2, h3, h4, h5⟩
  · injection h1 with e1 e2 e3
    subst e1 e3
    obtain rfl : k = 0 := by simpa using hk
    exact .inl ⟨A, c, rfl, h2, h3, rfl⟩
  · injection h1 with e1 e2 e3
    subst e1 e3
    have hl : (xs.take k).length = k := by simp; omega
    refine .inr ⟨b, off, c, by rw [hl], h2, by omega, h4, fun i hi => ?_⟩
    rw [hl] at hi
    rw [h5 i (by omega), List.getElem_take]
/-- append of one element, which lies in a new block of its own, onto a row of the call's own. -/
theorem wpList_append_one {P : Program} (w : World) (u : Value) (e0 : TypeId) {ops : Array Oper} {rest : List Oper} {o : Oper} {a : Act} {Q : Exit → Act → World → Prop} (hgd : o.guard = none) (s x : Operand) (t : TypeId)
    (ho : o.op = .call { callee := .builtin .append, args := #[s, x], argTypes := #[t, t] })
    (base : Nat) (e : TypeId) (i : TypeInfo) (z : Value) (bytes : Nat) (ht : P.underlying t = some (.slice e)) (hi : P.info? e = some i) (hz : i.zero = some z)
    (hsize : i.size = 1) (hby : i.bytes = bytes) (hzs : z.cells.size = 1) (hu : u.oneCell' = true)
    (v : Value) (n : Nat) (xs : List Value) (hs : a.eval s = v) (hown : w.ownsRow base e 1 v n xs)
    (hx : a.eval x = .slice (some ⟨w.heap.size, 0, none⟩) 1 1)
    (h63 : n + 1 ≤ maxLen) (hb : (n + 1) * bytes ≤ 140737488355328) (hbase : base ≤ w.heap.size)
    (h : ∀ v' w', w'.ownsRow base e 1 v' (n + 1) (xs ++ [u]) → Below base w w' → wpList P ops Q rest (a.put o.dst v') w') : wpList P ops Q (o :: rest) a (w.alloc (.cells #[u] e0)) := by
  refine wpList_append_own _ hgd s x t ho base e i z 1 bytes ht hi hz hsize hby hzs (by omega) v n xs hs (hown.alloc _) ⟨w.heap.size, 0, none⟩ 1 1 [u] hx rfl ?_ (by simpa using hu) h63 hb (by simp; omega) fun v' w' k1 k2 _ => h v' w' k1 ?_
  · intro j y hy
    have hj : j = 0 := by
      rcases Nat.eq_zero_or_pos j with h0 | h0
      · exact h0
      · rw [List.getElem?_eq_none (by simp; omega)] at hy; cases hy
    subst hj
    have hy' : u = y := by simpa using hy
    subst hy'
    simp [Addr.add]
  · exact ((Below.refl _ _).alloc hbase _).grown k2 (by simp; omega) (fun k hk => (hown.lt k hk).1)
end Go.Proofs.Ytcicdbhffkpldaa

/- Pieces, reckoned: which counts, what is merged. No program in sight, no condition. -/
namespace Go.Proofs.Ytcicdbhffkpldaa
open Go.RowKit

theorem bl_irrefl : ∀ x : List UInt8, Op.bytesLess x x = false
  | [] => rfl
  | a :: x => by
    rw [Op.bytesLess, bl_irrefl x, Bool.and_false, Bool.or_false]
    exact decide_eq_false (by simp)
theorem bl_trans : ∀ {x y z : List UInt8}, Op.bytesLess x y = true → Op.bytesLess y z = true → Op.bytesLess x z = true
  | _, [], _, h, _ => by simp [Op.bytesLess] at h
  | [], _ :: _, [], _, h => by simp [Op.bytesLess] at h
  | [], _ :: _, _ :: _, _, _ => rfl
  | _ :: _, _ :: _, [], _, h => by simp [Op.bytesLess] at h
  | a :: x, b :: y, c :: z, h, g => by
    simp only [Op.bytesLess, Bool.or_eq_true, decide_eq_true_eq, Bool.and_eq_true, beq_iff_eq] at h g ⊢
    rcases h with h | ⟨rfl, h⟩
    · rcases g with g | ⟨rfl, _⟩
      · exact .inl (UInt8.lt_trans h g)
      · exact .inl h
    · rcases g with g | ⟨rfl, g⟩
      · exact .inl g
      · exact .inr ⟨rfl, bl_trans h g⟩
theorem bl_tri : ∀ {x y : List UInt8}, x ≠ y → Op.bytesLess x y = false → Op.bytesLess y x = true
  | [], [], h, _ => absurd rfl h
  | [], _ :: _, _, h => by simp [Op.bytesLess] at h
  | _ :: _, [], _, _ => rfl
  | a :: x, b :: y, hne, h => by
    simp only [Op.bytesLess, Bool.or_eq_false_iff, decide_eq_false_iff_not, Bool.and_eq_false_imp, beq_iff_eq] at h
    simp only [Op.bytesLess, Bool.or_eq_true, decide_eq_true_eq, Bool.and_eq_true, beq_iff_eq]
    by_cases e : a = b
    · subst e
      exact .inr ⟨rfl, bl_tri (fun e => hne (by rw [e])) (h.2 rfl)⟩
    · left
      have h1 := h.1
      rw [UInt8.lt_iff_toNat_lt] at h1 ⊢
      have h2 : a.toNat ≠ b.toNat := fun e2 => e (UInt8.toNat_inj.1 e2)
      omega
theorem str_inj {a b : ByteArray} (h : a.toList = b.toList) : a = b := by
  rw [ByteArray.toList_eq, ByteArray.toList_eq] at h
  exact ByteArray.ext (Array.toList_inj.1 h)
/-- A piece: its series, its time, its value, its id's number and node. -/
structure Pc where
  s : ByteArray
  t : Int
  v : Int
  n : Nat
  o : Nat
def Pc.vs (p : Pc) : List Value := [.string p.s, .int .i64 p.t, .int .i64 p.v, .int .u64 (p.n : Int), .int .u16 (p.o : Int)]
structure Pc.Ok (p : Pc) : Prop where
  s : p.s.size ≤ maxLen
  t : (Lit.int .i64 p.t).wf = true
  v : (Lit.int .i64 p.v).wf = true
  n : p.n < 18446744073709551616
  o : p.o < 65536
/-- It may be. -/
def Pc.may (p : Pc) : Prop := 1 ≤ p.s.size ∧ p.s.size ≤ 200
/-- An id above another. -/
def aboveP (n o m q : Nat) : Bool := decide (m < n) || (decide (n = m) && decide (q < o))
def lessP (a b : Pc) : Bool := if a.s.toList ≠ b.s.toList then Op.bytesLess a.s.toList b.s.toList else if a.t ≠ b.t then decide (a.t < b.t) else aboveP b.n b.o a.n a.o
def sameK (a b : Pc) : Prop := a.s = b.s ∧ a.t = b.t
/-- The key's order. -/
def keyLt (a b : Pc) : Prop := Op.bytesLess a.s.toList b.s.toList = true ∨ (a.s = b.s ∧ a.t < b.t)
/-- What outdoes. -/
def outP (p q : Pc) : Prop := aboveP p.n p.o q.n q.o = true ∨ (p.n = q.n ∧ p.o = q.o ∧ q.v < p.v)
theorem above_iff {n o m q : Nat} : aboveP n o m q = true ↔ m < n ∨ (n = m ∧ q < o) := by
  unfold aboveP
  simp only [Bool.or_eq_true, Bool.and_eq_true, decide_eq_true_eq]
theorem outP_iff {p q : Pc} : outP p q ↔ q.n < p.n ∨ (p.n = q.n ∧ (q.o < p.o ∨ (p.o = q.o ∧ q.v < p.v))) := by
  unfold outP
  rw [above_iff]
  omega
theorem keyLt_irrefl (a : Pc) : ¬ keyLt a a := fun h => by
  rcases h with h | h
  · rw [bl_irrefl] at h
    cases h
  · omega
theorem keyLt_trans {a b c : Pc} (h : keyLt a b) (g : keyLt b c) : keyLt a c := by
  rcases h with h | ⟨h, ht⟩
  · rcases g with g | ⟨g, _⟩
    · exact .inl (bl_trans h g)
    · rw [g] at h
      exact .inl h
  · rcases g with g | ⟨g, gt⟩
    · rw [← h] at g
      exact .inl g
    · exact .inr ⟨h.trans g, by omega⟩
theorem keyLt_less {a b : Pc} (h : keyLt a b) : lessP a b = true := by
  unfold lessP
  rcases h with h | ⟨h, ht⟩
  · rw [if_pos fun e => by rw [e, bl_irrefl] at h; cases h]
    exact h
  · rw [if_neg (by rw [h]; exact fun e => e rfl), if_pos (by omega), decide_eq_true ht]
theorem less_irrefl (a : Pc) : lessP a a = false := by
  unfold lessP
  rw [if_neg fun e => e rfl, if_neg fun e => e rfl]
  unfold aboveP
  simp
/-- What is merged of some pieces. -/
structure MergedOf (M l : List Pc) : Prop where
  sorted : M.Pairwise keyLt
  mem : ∀ p ∈ M, p ∈ l ∧ p.may
  best : ∀ p ∈ M, ∀ q ∈ l, q.may → sameK p q → ¬ outP q p
  all : ∀ q ∈ l, q.may → ∃ p ∈ M, sameK p q
theorem MergedOf.congr {M l l' : List Pc} (h : MergedOf M l) (hl : ∀ p, p ∈ l ↔ p ∈ l') : MergedOf M l' :=
  ⟨h.sorted, fun p hp => ⟨(hl p).1 (h.mem p hp).1, (h.mem p hp).2⟩, fun p hp q hq => h.best p hp q ((hl q).2 hq), fun q hq => h.all q ((hl q).2 hq)⟩
theorem pc_eq {p q : Pc} (hk : sameK p q) (h1 : ¬ outP p q) (h2 : ¬ outP q p) : p = q := by
  obtain ⟨s, t, v, n, o⟩ := p
  obtain ⟨s', t', v', n', o'⟩ := q
  obtain ⟨e1, e2⟩ := hk
  rw [outP_iff] at h1 h2
  simp only at e1 e2 h1 h2
  obtain rfl := e1
  obtain rfl := e2
  obtain rfl : n = n' := by omega
  obtain rfl : o = o' := by omega
  obtain rfl : v = v' := by omega
  rfl
theorem sameK.symm {p q : Pc} (h : sameK p q) : sameK q p := ⟨h.1.symm, h.2.symm⟩
theorem sameK.trans {p q r : Pc} (h : sameK p q) (g : sameK q r) : sameK p r := ⟨h.1.trans g.1, h.2.trans g.2⟩
theorem keyLt_not_same {a b : Pc} (h : keyLt a b) : ¬ sameK a b := fun g => by
  rcases h with h | ⟨_, h⟩
  · rw [g.1, bl_irrefl] at h
    cases h
  · have := g.2
    omega
theorem sorted_ext : ∀ {M N : List Pc}, M.Pairwise keyLt → N.Pairwise keyLt → (∀ p, p ∈ M ↔ p ∈ N) → M = N
  | [], [], _, _, _ => rfl
  | [], q :: N, _, _, h => absurd ((h q).2 (List.mem_cons_self ..)) (by simp)
  | p :: M, [], _, _, h => absurd ((h p).1 (List.mem_cons_self ..)) (by simp)
  | p :: M, q :: N, hM, hN, h => by
    rw [List.pairwise_cons] at hM hN
    have e : p = q := by
      rcases List.mem_cons.1 ((h p).1 (List.mem_cons_self ..)) with e | e
      · exact e
      · rcases List.mem_cons.1 ((h q).2 (List.mem_cons_self ..)) with e2 | e2
        · exact e2.symm
        · exact absurd (keyLt_trans (hN.1 p e) (hM.1 q e2)) (keyLt_irrefl _)
    subst e
    rw [sorted_ext hM.2 hN.2 fun r => ⟨fun hr => ?_, fun hr => ?_⟩]
    · rcases List.mem_cons.1 ((h r).1 (List.mem_cons_of_mem _ hr)) with e | e
      · rw [e] at hr
        exact absurd (hM.1 p hr) (keyLt_irrefl _)
      · exact e
    · rcases List.mem_cons.1 ((h r).2 (List.mem_cons_of_mem _ hr)) with e | e
      · rw [e] at hr
        exact absurd (hN.1 p hr) (keyLt_irrefl _)
      · exact e
theorem merged_one {M N l : List Pc} (h : MergedOf M l) (g : MergedOf N l) : M = N := by
  have half : ∀ {M N : List Pc}, MergedOf M l → MergedOf N l → ∀ p, p ∈ M → p ∈ N := fun {M N} h g p hp => by
    obtain ⟨h1, h2⟩ := h.mem p hp
    obtain ⟨q, hq, hk⟩ := g.all p h1 h2
    obtain ⟨g1, g2⟩ := g.mem q hq
    have e := pc_eq hk (h.best p hp q g1 g2 hk.symm) (g.best q hq p h1 h2 hk)
    rw [← e]
    exact hq
  exact sorted_ext h.sorted g.sorted fun p => ⟨half h g p, half g h p⟩
theorem outP_le {p q r : Pc} (h : ¬ outP q r) (g : ¬ outP r p) : ¬ outP q p := by
  rw [outP_iff] at h g ⊢
  omega
/-- To merge some first makes no odds. -/
theorem merged_part {M1 M l1 l2 : List Pc} (h1 : MergedOf M1 l1) (h : MergedOf M (M1 ++ l2)) : MergedOf M (l1 ++ l2) := by
  refine ⟨h.sorted, fun p hp => ?_, fun p hp q hq hm hk => ?_, fun q hq hm => ?_⟩
  · obtain ⟨h2, h3⟩ := h.mem p hp
    rcases List.mem_append.1 h2 with h4 | h4
    · exact ⟨List.mem_append.2 (.inl (h1.mem p h4).1), h3⟩
    · exact ⟨List.mem_append.2 (.inr h4), h3⟩
  · rcases List.mem_append.1 hq with h4 | h4
    · obtain ⟨r, hr, hk2⟩ := h1.all q h4 hm
      have h5 := h1.best r hr q h4 hm hk2
      have h6 := h.best p hp r (List.mem_append.2 (.inl hr)) (h1.mem r hr).2 (hk.trans hk2.symm)
      exact outP_le h5 h6
    · exact h.best p hp q (List.mem_append.2 (.inr h4)) hm hk
  · rcases List.mem_append.1 hq with h4 | h4
    · obtain ⟨r, hr, hk2⟩ := h1.all q h4 hm
      obtain ⟨p, hp, hk⟩ := h.all r (List.mem_append.2 (.inl hr)) (h1.mem r hr).2
      exact ⟨p, hp, hk.trans hk2⟩
    · exact h.all q (List.mem_append.2 (.inr h4)) hm
theorem merged_self {M l : List Pc} (h : MergedOf M l) : MergedOf M (M ++ M) := by
  refine ⟨h.sorted, fun p hp => ⟨List.mem_append.2 (.inl hp), (h.mem p hp).2⟩, fun p hp q hq hm hk => ?_, fun q hq hm => ⟨q, ?_, rfl, rfl⟩⟩
  · have hq : q ∈ M := (List.mem_append.1 hq).elim id id
    exact h.best p hp q (h.mem q hq).1 hm hk
  · exact (List.mem_append.1 hq).elim id id
/-- Those between two times. -/
def betweenP (l : List Pc) (a b : Int) : List Pc := l.filter fun p => decide (a ≤ p.t) && decide (p.t ≤ b)
theorem between_all {l : List Pc} (h : ∀ p ∈ l, p.Ok) : betweenP l (-9223372036854775808) 9223372036854775807 = l := by
  unfold betweenP
  refine List.filter_eq_self.2 fun p hp => ?_
  have h1 := (h p hp).t
  simp [Lit.wf, IntKind.min, IntKind.max, IntKind.signed, IntKind.bits] at h1
  simp only [Bool.and_eq_true, decide_eq_true_eq]
  omega
end Go.Proofs.Ytcicdbhffkpldaa

/- A short form's bytes: plain words, with no program in sight. No condition of its own. -/
namespace Go.Proofs.Ytcicdbhffkpldaa
open Go.RowKit

/-- The bytes of a short form. -/
def shortB (fuel : Nat) (n : Nat) : List UInt8 :=
  match fuel with
  | 0 => [UInt8.ofNat n]
  | fuel + 1 => if n < 128 then [UInt8.ofNat n] else UInt8.ofNat (n % 128 + 128) :: shortB fuel (n / 128)

theorem shortB_last {f m : Nat} (h : (m : Int) < 128) : shortB f m = [UInt8.ofNat m] := by
  cases f with
  | zero => rfl
  | succ f => rw [shortB, if_pos (by omega)]
theorem shortB_more {f m : Nat} (h : ¬ (m : Int) < 128) : shortB (f + 1) m = UInt8.ofNat (m % 128 + 128) :: shortB f (m / 128) := by
  rw [shortB, if_neg (by omega)]
theorem shortB_len (f n : Nat) : 1 ≤ (shortB f n).length ∧ (shortB f n).length ≤ f + 1 := by
  induction f generalizing n with
  | zero => simp [shortB]
  | succ f ih =>
    rw [shortB]
    split
    · simp
    · have := ih (n / 128)
      simp
      omega
/-- No short form is another's beginning. -/
theorem shortB_cut {f n m : Nat} {x y : List UInt8} (hn : n < 2 * 128 ^ f) (hm : m < 2 * 128 ^ f) (h : shortB f n ++ x = shortB f m ++ y) : n = m ∧ x = y := by
  induction f generalizing n m with
  | zero =>
    simp only [shortB, List.cons_append, List.nil_append, List.cons.injEq] at h
    obtain ⟨h1, h2⟩ := h
    have h3 := congrArg UInt8.toNat h1
    rw [UInt8.toNat_ofNat', UInt8.toNat_ofNat'] at h3
    exact ⟨by omega, h2⟩
  | succ f ih =>
    rw [shortB, shortB] at h
    split at h <;> split at h <;> rw [List.cons_append, List.cons_append, List.cons.injEq] at h <;> obtain ⟨h1, h2⟩ := h <;> have h3 := congrArg UInt8.toNat h1 <;> rw [UInt8.toNat_ofNat', UInt8.toNat_ofNat'] at h3
    · exact ⟨by omega, by simpa using h2⟩
    · exfalso; omega
    · exfalso; omega
    · obtain ⟨h4, h5⟩ := ih (by rw [Nat.pow_succ] at hn; omega) (by rw [Nat.pow_succ] at hm; omega) h2
      exact ⟨by omega, h5⟩
end Go.Proofs.Ytcicdbhffkpldaa

/- The contract of the reference's Same: are two rows of bytes one? Conditions: both read as bytes, of at most 2^40. -/
namespace Go.Proofs.Ytcicdbhffkpldaa
open Go.RowKit

theorem same_step {xs ys : List UInt8} {k : Nat} (hk : k < xs.length) (hl : xs.length = ys.length) (h : xs.take k = ys.take k) (he : xs[k] = ys[k]'(by omega)) : xs.take (k + 1) = ys.take (k + 1) := by
  rw [List.take_succ_eq_append_getElem hk, List.take_succ_eq_append_getElem (by omega), h, he]
theorem same_no {xs ys : List UInt8} {k : Nat} (hk : k < xs.length) (hl : xs.length = ys.length) (he : xs[k] ≠ ys[k]'(by omega)) : decide (xs = ys) = false := by
  rw [decide_eq_false_iff_not]
  rintro rfl
  exact he rfl

set_option maxHeartbeats 400000 in
theorem same_any (va vb : Value) (xs ys : List UInt8) (w : World) (ha : Rd w va xs) (hb : Rd w vb ys) :
    Calls Try.prog 14 #[va, vb] w fun e w' => e = .returned (.bool (decide (xs = ys))) ∧ ∃ n, w' = w.drewN n := by
  obtain ⟨A, c, rfl, hc1, hc2, hA⟩ := ha.form
  obtain ⟨B, d, rfl, hd1, hd2, hB⟩ := hb.form
  unfold maxLen at hc2 hd2
  by_cases hl : xs.length = ys.length
  · have HL := Lib.hid hl
    have hL1 : ((xs.length : Int) != ys.length) = false := by rw [bne_eq_false_iff_eq]; omega
    have HA := Lib.hid hA
    have HB := Lib.hid hB
    clear hA hB hl ha hb
    go_enter Try.func14, Try.ntmps14
    go_wp2
    go_loopw [5] (fun i wr => ∃ k n : Nat, k ≤ xs.length ∧ i = .int .i64 k ∧ wr = w.drewN n ∧ xs.take k = ys.take k) (fun i _ => xs.length - (intOf i).toNat)
    case atStart => exact ⟨0, 0, by omega, rfl, rfl, rfl⟩
    case round =>
      obtain ⟨k, n, hk, rfl, rfl, ht⟩ := hrel
      have HT := Lib.hid ht
      clear ht
      by_cases hlt : k < xs.length
      · obtain ⟨b, off, rfl, hb1, hb2⟩ := HA.out (by omega)
        obtain ⟨b', off', rfl, hb1', hb2'⟩ := HB.out (by have := HL.out; omega)
        have hlt' : k < ys.length := by have := HL.out; omega
        have c1 := hb2 k hlt
        have c2 := hb2' k hlt'
        clear hb2 hb2'
        by_cases he : xs[k] = ys[k]
        · have k1 : ((xs[k].toNat : Int) != (ys[k].toNat : Int)) = false := by rw [he]; simp
          have HE := Lib.hid he
          clear he
          go_wp2
          go_quiet (fail)
          go_wp2
          go_roundw
          case rel => exact ⟨k + 1, _, by omega, by go_num, rfl, same_step hlt HL.out HT.out HE.out⟩
          case measure => simp [intOf]; omega
        · have k1 : ((xs[k].toNat : Int) != (ys[k].toNat : Int)) = true := by
            rw [bne_iff_ne]
            intro h
            exact he (UInt8.toNat_inj.1 (by omega))
          have HE := Lib.hid he
          clear he
          go_wp2
          go_quiet (fail)
          go_wp2
          go_ret
          exact ⟨ret_b (same_no hlt HL.out HE.out).symm, n + _, World.drewN_drewN _ _ _⟩
      · have HX : Hid (xs = ys) := by
          have h1 := HT.out
          have h2 := HL.out
          rwa [List.take_of_length_le (by omega), List.take_of_length_le (by omega)] at h1
        go_wp2
        go_ret
        exact ⟨ret_b (decide_eq_true HX.out).symm, _, rfl⟩
  · have hL1 : ((xs.length : Int) != ys.length) = true := by rw [bne_iff_ne]; omega
    have HL := Lib.hid hl
    clear hl hA hB ha hb
    go_enter Try.func14, Try.ntmps14
    go_wp2
    go_ret
    exact ⟨ret_b (decide_eq_false fun h => HL.out (by rw [h])).symm, 0, rfl⟩
end Go.Proofs.Ytcicdbhffkpldaa

/- A literal row of bytes in a new block reads as its bytes; it lies in no elder block. No condition of its own. -/
namespace Go.Proofs.Ytcicdbhffkpldaa
open Go.RowKit

theorem rd_litm {w : World} {t : TypeId} {fr : Nat × Nat} (xs : List UInt8) (n c : Nat) (hn : n = xs.length) (hc : n ≤ c) (hm : c ≤ maxLen) : Rd (w.alloc (.cells (xs.map bv).toArray t fr)) (.slice (some ⟨w.heap.size, 0, none⟩) n c) xs := by
  subst hn
  refine .inr ⟨w.heap.size, 0, c, rfl, by simp, hc, hm, fun i hi => ?_⟩
  rw [Nat.zero_add, cell_of_row _ w.heap.size i _ _ _ (heap_alloc_new w _)]
  simp [bv, hi]
theorem rd_lit (w : World) (x : UInt8) : Rd (w.alloc (.cells #[.int .u8 (x.toNat : Int)] 5)) (.slice (some ⟨w.heap.size, 0, none⟩) 1 1) [x] := rd_one rfl
theorem lit_apart {F : Nat → Prop} {n : Nat} (h : ∀ k, F k → k < n) (len c : Nat) : 0 < 1 → ∀ j, (Value.slice (some ⟨n, 0, none⟩) len c).ownBlock = some j → ¬ F j := fun _ j hj hf => by
  have e : n = j := by simpa [Value.ownBlock] using hj
  have := h j hf
  omega
end Go.Proofs.Ytcicdbhffkpldaa
