/- Part 1 of the words that the laws share: Mem, ShaBit, DSpec, DGet, DPure. No condition of its own: each theorem says its own. -/
import Derived.Test.YtbodiioemohenaaDoorRows
import Derived.WalkKit
import Derived.WalkSpells
import Derived.WalkLawsBesides
import Derived.BigGuardPart
import Derived.Lib.Hide
import Derived.Handy
import Derived.Deep.QuietTactic
import Derived.BigQuiet
import Derived.Deep.Draws
import Derived.Deep.AppendLies
import Derived.Laws.AppendOwnNone

/- Words for slices of bytes in memory: what a slice of bytes reads as, kept over draws, new blocks and whatever leaves old blocks alone. No condition of its own. -/
namespace Go.Proofs.YtbodiioemohenaaDoor
open Go.RowKit

/-- The value of a byte. -/
def bv (b : UInt8) : Value := .int .u8 (b.toNat : Int)
theorem bv_one : ∀ (xs : List UInt8), ∀ u ∈ xs.map bv, u.oneCell' = true := by
  intro xs u hu
  obtain ⟨b, _, rfl⟩ := List.mem_map.1 hu
  rfl

/-- The slice v reads as the bytes xs. -/
def Rd (w : World) (v : Value) (xs : List UInt8) : Prop :=
  (∃ A c, v = .slice A 0 c ∧ c ≤ maxLen ∧ (A = none → c = 0) ∧ xs = []) ∨
  ∃ b off c, v = .slice (some ⟨b, off, none⟩) xs.length c ∧ b < w.heap.size ∧ xs.length ≤ c ∧ c ≤ maxLen ∧ ∀ i (h : i < xs.length), w.cell? ⟨b, off + i, none⟩ = some (.int .u8 ((xs[i]).toNat : Int))

theorem Rd.keep {w w' : World} {v : Value} {xs : List UInt8} (h : Rd w v xs) (hs : w.heap.size ≤ w'.heap.size) (hk : ∀ p : Addr, p.block < w.heap.size → w'.cell? p = w.cell? p) : Rd w' v xs := by
  rcases h with h | ⟨b, off, c, h1, h2, h3, h4, h5⟩
  · exact .inl h
  · exact .inr ⟨b, off, c, h1, by omega, h3, h4, fun i hi => (hk _ h2).trans (h5 i hi)⟩
theorem Rd.below {w w' : World} {v : Value} {xs : List UInt8} (h : Rd w v xs) (hb : Below w.heap.size w w') : Rd w' v xs := h.keep hb.size fun _ hp => hb.cell hp
theorem Rd.drewN {w : World} {v : Value} {xs : List UInt8} (h : Rd w v xs) (n : Nat) : Rd (w.drewN n) v xs := h
theorem Rd.drew {w : World} {v : Value} {xs : List UInt8} (h : Rd w v xs) : Rd w.drew v xs := h
theorem Rd.alloc {w : World} {v : Value} {xs : List UInt8} (h : Rd w v xs) (o : Obj) : Rd (w.alloc o) v xs := h.keep (by simp) fun p hp => World.cell?_alloc_lt w o p hp
theorem Rd.nil (w : World) : Rd w (.slice none 0 0) [] := .inl ⟨none, 0, rfl, by simp, fun _ => rfl, rfl⟩
/-- As a slice with an address that is asked for only where there is an element. -/
theorem Rd.form {w : World} {v : Value} {xs : List UInt8} (h : Rd w v xs) : ∃ A c, v = .slice A xs.length c ∧ xs.length ≤ c ∧ c ≤ maxLen ∧
    (0 < xs.length → ∃ b off, A = some ⟨b, off, none⟩ ∧ b < w.heap.size ∧ ∀ i (h : i < xs.length), w.cell? ⟨b, off + i, none⟩ = some (.int .u8 ((xs[i]).toNat : Int))) := by
  rcases h with ⟨A, c, rfl, hc, _, rfl⟩ | ⟨b, off, c, h1, h2, h3, h4, h5⟩
  · exact ⟨A, c, rfl, by simp, hc, fun h => by simp at h⟩
  · exact ⟨_, c, h1, h3, h4, fun _ => ⟨b, off, rfl, h2, h5⟩⟩
theorem Rd.of_own {w : World} {base : Nat} {t : TypeId} {v : Value} {n : Nat} {xs : List UInt8} (h : w.ownsRow base t 1 v n (xs.map bv)) : Rd w v xs := by
  have hl : xs.length = n := by simpa using h.1
  rcases h.2 with ⟨rfl, h0⟩ | ⟨g, cap, cur, rfl, hg, hh, hn, hc, hs, ht⟩
  · exact .inl ⟨none, 0, rfl, by simp, fun _ => rfl, List.eq_nil_of_length_eq_zero (by omega)⟩
  · refine .inr ⟨g, 0, cap, by rw [hl], ?_, by omega, hc, fun i hi => ?_⟩
    · rcases Nat.lt_or_ge g w.heap.size with h1 | h1
      · exact h1
      · rw [Array.getElem?_eq_none h1] at hh; cases hh
    · have h2 := h.cellAt (g := g) i (by omega)
      rw [Nat.zero_add, h2, List.getElem?_map, List.getElem?_eq_getElem hi]
      rfl
/-- The world after a call that leaves all that was there. -/
def Fresh (w : World) (ys : List UInt8) (e : Ending) (w' : World) : Prop := ∃ v, e = .returned v ∧ Rd w' v ys ∧ Below w.heap.size w w'
/-- The same, and the row is the call's own. -/
def Own (w : World) (t : TypeId) (ys : List UInt8) (e : Ending) (w' : World) : Prop := ∃ v, e = .returned v ∧ w'.ownsRow w.heap.size t 1 v ys.length (ys.map bv) ∧ Below w.heap.size w w'
theorem Own.fresh {w : World} {t : TypeId} {ys : List UInt8} {e : Ending} {w' : World} (h : Own w t ys e w') : Fresh w ys e w' := by
  obtain ⟨v, h1, h2, h3⟩ := h
  exact ⟨v, h1, Rd.of_own h2, h3⟩
theorem below_drewN {B : Nat} {a w : World} (h : Below B a w) (n : Nat) : Below B a (w.drewN n) := ⟨h.os, h.tape, h.output, h.size, h.block⟩
theorem ret_b {a b : Bool} (h : a = b) : Ending.returned (.bool a) = .returned (.bool b) := by rw [h]
theorem ret_i {k : IntKind} {a b : Int} (h : a = b) : Ending.returned (.int k a) = .returned (.int k b) := by rw [h]
theorem ret_ii {k l : IntKind} {a b c d : Int} (h : a = c) (h' : b = d) : Ending.returned (.tuple #[.int k a, .int l b]) = .returned (.tuple #[.int k c, .int l d]) := by rw [h, h']

/-- append onto a row of the call's own, from whatever reads as bytes. -/
theorem wpList_append_rd {P : Program} (w : World) {ops : Array Oper} {rest : List Oper} {o : Oper} {a : Act} {Q : Exit → Act → World → Prop} (hgd : o.guard = none) (s x : Operand) (t : TypeId)
    (ho : o.op = .call { callee := .builtin .append, args := #[s, x], argTypes := #[t, t] })
    (base : Nat) (e : TypeId) (i : TypeInfo) (z : Value) (ht : P.underlying t = some (.slice e)) (hi : P.info? e = some i) (hz : i.zero = some z)
    (hsize : i.size = 1) (hby : i.bytes = 1) (hzs : z.cells.size = 1)
    (v : Value) (n : Nat) (xs : List Value) (hs : a.eval s = v) (hown : w.ownsRow base e 1 v n xs)
    (vx : Value) (ys : List UInt8) (hx : a.eval x = vx) (hr : Rd w vx ys)
    (hb : n + ys.length ≤ 140737488355328) (hbase : base ≤ w.heap.size)
    (h : ∀ v' w', w'.ownsRow base e 1 v' (n + ys.length) (xs ++ ys.map bv) → w.grownBy w' v.ownBlock → wpList P ops Q rest (a.put o.dst v') w') : wpList P ops Q (o :: rest) a w := by
  rcases hr with ⟨A, c, rfl, hc, hA, rfl⟩ | ⟨b, off, c, h1, h2, h3, h4, h5⟩
  · rcases A with _ | ad
    · rw [hA rfl] at hx
      exact wpList_append_own_none hgd s x t ho base e i 1 ht hi v n xs hs hown hx (h v w (by simpa using hown) (World.grownBy.refl w _))
    · exact wpList_append_own w hgd s x t ho base e i z 1 1 ht hi hz hsize hby hzs (by omega) v n xs hs hown ad 0 c [] hx (by simp) (by simp) (by simp) (by unfold maxLen; simp at hb; omega) (by simp at hb; omega) hbase fun v' w' k1 k2 _ => h v' w' (by simpa using k1) k2
  · refine wpList_append_own w hgd s x t ho base e i z 1 1 ht hi hz hsize hby hzs (by omega) v n xs hs hown ⟨b, off, none⟩ ys.length c (ys.map bv) (by rw [hx, h1]) (by simp) ?_ (bv_one ys) (by unfold maxLen; omega) (by omega) hbase fun v' w' k1 k2 _ => h v' w' k1 k2
    intro j u hu
    rw [List.getElem?_map] at hu
    by_cases hj : j < ys.length
    · rw [List.getElem?_eq_getElem hj] at hu
      obtain rfl : bv ys[j] = u := by simpa using hu
      have h6 := h5 j hj
      by_cases h0 : j = 0
      · subst h0; simpa [Addr.add, bv] using h6
      · simpa [Addr.add, h0, bv] using h6
    · rw [List.getElem?_eq_none (by omega)] at hu
      simp at hu
theorem own_ge {w : World} {base : Nat} {t : TypeId} {v : Value} {n : Nat} {xs : List Value} (h : w.ownsRow base t 1 v n xs) : ∀ k, v.ownBlock = some k → base ≤ k := fun k hk => (h.lt k hk).1
theorem rd_one {w : World} {t : TypeId} {z : Int} {b : UInt8} (hz : z = (b.toNat : Int)) : Rd (w.alloc (.cells #[.int .u8 z] t)) (.slice (some ⟨w.heap.size, 0, none⟩) 1 1) [b] := by
  subst hz
  refine .inr ⟨w.heap.size, 0, 1, rfl, by simp, by simp, by unfold maxLen; omega, fun i hi => ?_⟩
  obtain rfl : i = 0 := by simpa using hi
  simp
theorem info_u8 : (Tryd.prog.info? 5).map (fun i => (i.zero, i.size, i.bytes)) = some (some (.int .u8 0), 1, 1) := by kernel_rfl

/-- A slice of bytes that came in reads as bytes. -/
theorem rd_of_row {W : World} {x : Addr} {l c : Nat} {zs : List Int} (hl : l ≤ c) (hm : c ≤ maxLen) (hz : zs.length = c) (hcell : ∀ i, i < zs.length → W.cell? (x.add i) = some (.int .u8 (zs.getD i 0))) (hwz : ∀ n ∈ zs, (Lit.int .u8 n).wf = true) :
    ∃ xs, Rd W (.slice (some x) l c) xs := by
  by_cases h0 : l = 0
  · subst h0
    exact ⟨[], .inl ⟨some x, c, rfl, hm, (fun h => by cases h), rfl⟩⟩
  · obtain ⟨b, off, spot⟩ := x
    have h1 := hcell 0 (by omega)
    have hs : spot = none := by simpa [Addr.add] using World.cell?_spot h1
    subst hs
    have h1' : W.cell? ⟨b, off, none⟩ = some (.int .u8 (zs.getD 0 0)) := by simpa [Addr.add] using h1
    have hlen : ((zs.take l).map fun z => UInt8.ofNat z.toNat).length = l := by simp; omega
    refine ⟨(zs.take l).map fun z => UInt8.ofNat z.toNat, .inr ⟨b, off, c, by rw [hlen], World.block_lt_of_cell? W _ h1', by rw [hlen]; exact hl, hm, fun i hi => ?_⟩⟩
    rw [hlen] at hi
    have h2 := hcell i (by omega)
    have e1 : ((⟨b, off, none⟩ : Addr).add i) = ⟨b, off + i, none⟩ := by
      by_cases hi0 : i = 0
      · subst hi0; rfl
      · simp [Addr.add, hi0]
    have e2 : zs.getD i 0 = zs[i]'(by omega) := by simp [List.getD, List.getElem?_eq_getElem (show i < zs.length by omega)]
    rw [e1, e2] at h2
    have hw := bounds_u8 (hwz (zs[i]'(by omega)) (List.getElem_mem _))
    rw [h2]
    congr 2
    simp only [List.getElem_map, List.getElem_take, UInt8.toNat_ofNat']
    omega
theorem Rd.take {w : World} {A : Option Addr} {n c : Nat} {xs : List UInt8} (h : Rd w (.slice A n c) xs) {k : Nat} (hk : k ≤ xs.length) : Rd w (.slice A k c) (xs.take k) := by
  rcases h with ⟨A', c', h1, h2, h3, rfl⟩ | ⟨b, off, c', h1, h2, h3, h4, h5⟩
  · injection h1 with e1 e2 e3
    subst e1 e3
    obtain rfl : k = 0 := by simpa using hk
    exact .inl ⟨A, c, rfl, h2, h3, rfl⟩
  · injection h1 with e1 e2 e3
    subst e1 e3
    have hl : (xs.take k).length = k := by simp; omega
    refine .inr ⟨b, off, c, by rw [hl], h2, by omega, h4, fun i hi => ?_⟩
    rw [hl] at hi
    rw [h5 i (by omega), List.getElem_take]
/-- append of one element, which lies in a new block of its own, onto a row of the call's own. -/
theorem wpList_append_one {P : Program} (w : World) (u : Value) (e0 : TypeId) {ops : Array Oper} {rest : List Oper} {o : Oper} {a : Act} {Q : Exit → Act → World → Prop} (hgd : o.guard = none) (s x : Operand) (t : TypeId)
    (ho : o.op = .call { callee := .builtin .append, args := #[s, x], argTypes := #[t, t] })
    (base : Nat) (e : TypeId) (i : TypeInfo) (z : Value) (bytes : Nat) (ht : P.underlying t = some (.slice e)) (hi : P.info? e = some i) (hz : i.zero = some z)
    (hsize : i.size = 1) (hby : i.bytes = bytes) (hzs : z.cells.size = 1) (hu : u.oneCell' = true)
    (v : Value) (n : Nat) (xs : List Value) (hs : a.eval s = v) (hown : w.ownsRow base e 1 v n xs)
    (hx : a.eval x = .slice (some ⟨w.heap.size, 0, none⟩) 1 1)
    (h63 : n + 1 ≤ maxLen) (hb : (n + 1) * bytes ≤ 140737488355328) (hbase : base ≤ w.heap.size)
    (h : ∀ v' w', w'.ownsRow base e 1 v' (n + 1) (xs ++ [u]) → Below base w w' → wpList P ops Q rest (a.put o.dst v') w') : wpList P ops Q (o :: rest) a (w.alloc (.cells #[u] e0)) := by
  refine wpList_append_own _ hgd s x t ho base e i z 1 bytes ht hi hz hsize hby hzs (by omega) v n xs hs (hown.alloc _) ⟨w.heap.size, 0, none⟩ 1 1 [u] hx rfl ?_ (by simpa using hu) h63 hb (by simp; omega) fun v' w' k1 k2 _ => h v' w' k1 ?_
  · intro j y hy
    have hj : j = 0 := by
      rcases Nat.eq_zero_or_pos j with h0 | h0
      · exact h0
      · rw [List.getElem?_eq_none (by simp; omega)] at hy; cases hy
    subst hj
    have hy' : u = y := by simpa using hy
    subst hy'
    simp [Addr.add]
  · exact ((Below.refl _ _).alloc hbase _).grown k2 (by simp; omega) (fun k hk => (hown.lt k hk).1)
end Go.Proofs.YtbodiioemohenaaDoor

/- Words turned and cut, numbers as bytes with the highest first. No condition of its own. -/
namespace Go.Proofs.YtbodiioemohenaaDoor
open Go.RowKit


def rot1 (n : Nat) : Nat := n / 2 + n % 2 * 2147483648
def rotN : Nat → Nat → Nat
  | 0, n => n
  | k + 1, n => rot1 (rotN k n)
def cutN : Nat → Nat → Nat
  | 0, n => n
  | k + 1, n => cutN k n / 2
theorem rot1_lt {n : Nat} (h : n < 4294967296) : rot1 n < 4294967296 := by unfold rot1; omega
theorem rotN_lt {n : Nat} (h : n < 4294967296) (k : Nat) : rotN k n < 4294967296 := by
  induction k with
  | zero => exact h
  | succ k ih => exact rot1_lt ih
theorem cutN_lt {n : Nat} (h : n < 4294967296) (k : Nat) : cutN k n < 4294967296 := by
  induction k with
  | zero => exact h
  | succ k ih => show cutN k n / 2 < 4294967296; omega

/-- The number whose bytes these are, the highest first. -/
def numBE (xs : List UInt8) : Nat := xs.foldl (fun n x => n * 256 + x.toNat) 0
theorem numBE_snoc (xs : List UInt8) (c : UInt8) : numBE (xs ++ [c]) = numBE xs * 256 + c.toNat := by simp [numBE]
theorem numBE_lt (xs : List UInt8) : numBE xs < 256 ^ xs.length := by
  induction h : xs.length generalizing xs with
  | zero => simp [List.eq_nil_of_length_eq_zero h, numBE]
  | succ k ih =>
    have h1 : xs ≠ [] := by rintro rfl; simp at h
    rw [← List.dropLast_concat_getLast h1, numBE_snoc]
    have h2 := ih xs.dropLast (by simp [h])
    have h3 := (xs.getLast h1).toNat_lt
    rw [Nat.pow_succ]
    omega
/-- The lowest k bytes of n, the highest first. -/
def beB : Nat → Nat → List UInt8
  | 0, _ => []
  | k + 1, n => beB k (n / 256) ++ [UInt8.ofNat (n % 256)]
theorem beB_length (k n : Nat) : (beB k n).length = k := by
  induction k generalizing n with
  | zero => rfl
  | succ k ih => simp [beB, ih]
theorem beB_cons (k n : Nat) : beB (k + 1) n = UInt8.ofNat (n / 256 ^ k % 256) :: beB k n := by
  induction k generalizing n with
  | zero => simp [beB]
  | succ k ih =>
    rw [beB, ih, beB, List.cons_append, Nat.div_div_eq_div_mul, Nat.pow_succ, Nat.mul_comm 256]
theorem make_one {z : Value} (hz : z.cells = #[z]) (n : Nat) : (madeCells z.cells (n * 1)).toList = List.replicate n z := by
  rw [hz, List.eq_replicate_iff]
  refine ⟨by simp [madeCells], fun b hb => ?_⟩
  simp only [madeCells, Array.toList_map, List.mem_map] at hb
  obtain ⟨x, _, rfl⟩ := hb
  have h : x % (#[z] : Array Value).size = 0 := by simp; omega
  rw [h]
  rfl
/-- The cells behind j rounds. -/
def highC (k n j : Nat) : List Value := List.replicate (k - j) (.int .u8 0) ++ (beB j n).map bv
theorem highC_set {k n j m : Nat} (hj : j < k) (hm : m = n / 256 ^ j) : (highC k n j).set (k - 1 - j) (.int .u8 ((m % 256 : Nat) : Int)) = highC k n (j + 1) := by
  unfold highC
  rw [beB_cons, List.map_cons, ← hm, show k - j = (k - (j + 1)) + 1 by omega, List.replicate_succ', List.append_assoc, List.set_append_right _ _ (by simp; omega)]
  have e : k - 1 - j - (List.replicate (k - (j + 1)) (Value.int .u8 0)).length = 0 := by simp; omega
  rw [e]
  have e2 : bv (UInt8.ofNat (m % 256)) = .int .u8 ((m % 256 : Nat) : Int) := by unfold bv; rw [UInt8.toNat_ofNat']; exact congrArg (Value.int .u8) (by omega)
  simp [e2]
def HighRel (w : World) (g k n : Nat) (s i : Value) (wr : World) : Prop :=
  ∃ j m : Nat, i = .int .i64 ((k : Int) - 1 - j) ∧ j ≤ k ∧ m = n / 256 ^ j ∧ s = .int .u64 m ∧ wr.ownsRow w.heap.size 5 1 (.slice (some ⟨g, 0, none⟩) k k) k (highC k n j) ∧ Below w.heap.size w wr
end Go.Proofs.YtbodiioemohenaaDoor

/- A disk, reckoned: sectors that were written, the fuse, the power, the changes; what each act makes of it. No program in sight, no condition of its own. -/
namespace Go.Proofs.YtbodiioemohenaaDoor

/-- A sector that was written: its bytes, those when it was safe; is it torn, was it; isn't it safe? -/
structure Pl where
  plc : Nat
  now : List UInt8
  was : List UInt8
  torn : Bool
  old : Bool
  opn : Bool
/-- A disk: its written sectors by rising places. -/
structure DS where
  L : List Pl
  fuse : Nat
  dead : Bool
  ops : Nat
def z128 : List UInt8 := List.replicate 128 0
def pad128 (bs : List UInt8) : List UInt8 := bs ++ List.replicate (128 - bs.length) 0
theorem pad128_length {bs : List UInt8} (h : bs.length ≤ 128) : (pad128 bs).length = 128 := by simp [pad128]; omega
/-- A change: does it burn the fuse? -/
def burnS (S : DS) : DS × Bool :=
  if 0 < S.fuse then (if S.fuse = 1 then ({ S with ops := S.ops + 1, fuse := 0, dead := true }, true) else ({ S with ops := S.ops + 1, fuse := S.fuse - 1 }, false)) else ({ S with ops := S.ops + 1 }, false)
/-- Where a place lies among the written ones; their number: nowhere. -/
def findL (L : List Pl) (k : Int) : Nat := L.findIdx fun p => decide ((p.plc : Int) = k)
def blank (k : Nat) : Pl := ⟨k, z128, z128, false, false, false⟩
def insP (L : List Pl) (k : Nat) : List Pl := (L.takeWhile fun p => decide (p.plc < k)) ++ blank k :: (L.dropWhile fun p => decide (p.plc < k))
def putP (p : Pl) (bs : List UInt8) : Pl := { p with was := if p.opn then p.was else p.now, old := if p.opn then p.old else p.torn, opn := true, now := pad128 bs, torn := false }
def withP (L : List Pl) (k : Nat) : List Pl := if findL L k < L.length then L else insP L k
def writeL (L : List Pl) (k : Nat) (bs : List UInt8) : List Pl := (withP L k).modify (findL (withP L k) k) fun p => putP p bs
def writeS (S : DS) (k : Int) (bs : List UInt8) : DS × Nat :=
  if S.dead then (S, 10) else if k < 0 ∨ 1024 ≤ k then (S, 1) else if 128 < bs.length then (S, 3) else
    let r := burnS { S with L := writeL S.L k.toNat bs }
    (r.1, if r.2 then 10 else 0)
def safeP (p : Pl) : Pl := { p with opn := false }
def syncS (S : DS) : DS × Nat :=
  if S.dead then (S, 10) else
    let r := burnS S
    if r.2 then (r.1, 10) else ({ r.1 with L := r.1.L.map safeP }, 0)
def readS (S : DS) (k : Int) : List UInt8 × Nat :=
  if k < 0 ∨ 1024 ≤ k then ([], 1) else
    match S.L[findL S.L k]? with
    | none => (z128, 0)
    | some p => if p.torn then ([], 9) else (p.now, 0)
def fuseS (S : DS) (n : Int) : DS × Nat := if S.dead then (S, 10) else ({ S with fuse := n.toNat }, 0)
/-- What the power's return makes of a sector that isn't safe, by its fate. -/
def bootP (p : Pl) (f : Nat) : Pl := { p with opn := false, now := if f = 0 then p.was else p.now, torn := if f = 0 then p.old else if f = 2 then true else p.torn }
def fate (fs : List UInt8) (j : Nat) : Nat := if fs = [] then 0 else (fs.getD (j % fs.length) 0).toNat % 3
def bootL (fs : List UInt8) : Nat → List Pl → List Pl
  | _, [] => []
  | j, p :: r => if p.opn then bootP p (fate fs j) :: bootL fs (j + 1) r else p :: bootL fs j r
def bootS (S : DS) (fs : List UInt8) : DS := { S with L := bootL fs 0 S.L, fuse := 0, dead := false }
def newS : DS := ⟨[], 0, false, 0⟩
/-- All bytes. -/
def rawP (S : DS) (k : Nat) : List UInt8 := match S.L[findL S.L k]? with | none => z128 | some p => if p.torn then z128 else p.now
def rawS (S : DS) : List UInt8 := ((List.range 1024).map (rawP S)).flatten
/-- As a disk is: places below 1024, rising; 128 bytes each. -/
structure DOk (S : DS) : Prop where
  low : ∀ p ∈ S.L, p.plc < 1024
  rise : S.L.Pairwise fun p q => p.plc < q.plc
  full : ∀ p ∈ S.L, p.now.length = 128 ∧ p.was.length = 128
end Go.Proofs.YtbodiioemohenaaDoor

/- What lies at a place of a disk's sectors, and what writing, syncing, booting make of it. No program in sight. Condition of booting: places rise. -/
namespace Go.Proofs.YtbodiioemohenaaDoor

/-- What lies at a place. -/
def getP (L : List Pl) (k : Int) : Option Pl := L[findL L k]?
theorem getP_nil (k : Int) : getP [] k = none := rfl
theorem getP_cons (p : Pl) (L : List Pl) (k : Int) : getP (p :: L) k = if (p.plc : Int) = k then some p else getP L k := by
  unfold getP findL
  rw [List.findIdx_cons]
  by_cases h : (p.plc : Int) = k
  · rw [if_pos h]
    simp [h]
  · rw [if_neg h]
    simp [h]
theorem getP_append : ∀ (A B : List Pl) (k : Int), getP (A ++ B) k = (getP A k).or (getP B k)
  | [], B, k => by simp [getP_nil]
  | p :: A, B, k => by
    rw [List.cons_append, getP_cons, getP_cons]
    split
    · rfl
    · exact getP_append A B k
theorem getP_plc : ∀ {L : List Pl} {k : Int} {p : Pl}, getP L k = some p → p ∈ L ∧ (p.plc : Int) = k
  | [], k, p, h => by cases h
  | q :: L, k, p, h => by
    rw [getP_cons] at h
    split at h
    · rename_i e
      injection h with h
      subst h
      exact ⟨List.mem_cons_self .., e⟩
    · obtain ⟨h1, h2⟩ := getP_plc h
      exact ⟨List.mem_cons_of_mem _ h1, h2⟩
theorem getP_none : ∀ {L : List Pl} {k : Int}, getP L k = none ↔ ∀ p ∈ L, (p.plc : Int) ≠ k
  | [], k => by simp [getP_nil]
  | q :: L, k => by
    rw [getP_cons]
    split
    · rename_i e
      simp [e]
    · rename_i e
      rw [getP_none, List.forall_mem_cons]
      exact ⟨fun h => ⟨e, h⟩, fun h => h.2⟩
theorem getP_found {L : List Pl} {k : Int} : findL L k < L.length ↔ (getP L k).isSome = true := by
  unfold getP
  simp
theorem getP_map {f : Pl → Pl} (hf : ∀ p, (f p).plc = p.plc) : ∀ (L : List Pl) (k : Int), getP (L.map f) k = (getP L k).map f
  | [], k => rfl
  | p :: L, k => by
    rw [List.map_cons, getP_cons, getP_cons, hf, getP_map hf L k]
    split <;> rfl
theorem getP_modify {f : Pl → Pl} (hf : ∀ p, (f p).plc = p.plc) (k k' : Int) : ∀ L : List Pl, getP (L.modify (findL L k) f) k' = if k' = k then (getP L k).map f else getP L k'
  | [] => by simp [getP_nil]
  | p :: L => by
    have e : findL (p :: L) k = if (p.plc : Int) = k then 0 else findL L k + 1 := by
      unfold findL
      rw [List.findIdx_cons]
      by_cases h : (p.plc : Int) = k <;> simp [h]
    rw [e, getP_cons p L k, getP_cons p L k']
    by_cases h : (p.plc : Int) = k
    · rw [if_pos h, List.modify_zero_cons, getP_cons, hf, if_pos h]
      by_cases h2 : k' = k
      · rw [if_pos h2, if_pos (by rw [h2]; exact h)]
        rfl
      · rw [if_neg h2]
        split <;> rename_i h3
        · exact absurd (h3.symm.trans h) h2
        · rfl
    · rw [if_neg h, List.modify_succ_cons, getP_cons, getP_modify hf k k' L, if_neg h]
      by_cases h2 : k' = k
      · rw [if_pos h2, if_neg (by rw [h2]; exact h), if_pos h2]
      · rw [if_neg h2, if_neg h2]
theorem getP_insP (L : List Pl) (k : Nat) (k' : Int) (hn : getP L k = none) : getP (insP L k) k' = if k' = k then some (blank k) else getP L k' := by
  have hL : L = (L.takeWhile fun p => decide (p.plc < k)) ++ (L.dropWhile fun p => decide (p.plc < k)) := List.takeWhile_append_dropWhile.symm
  unfold insP
  rw [getP_append, getP_cons]
  have hb : ((blank k).plc : Int) = k := rfl
  rw [hb]
  by_cases h : k' = k
  · subst h
    rw [if_pos rfl, if_pos rfl, getP_none.2 (fun p hp => getP_none.1 hn p (by rw [hL]; exact List.mem_append_left _ hp))]
    rfl
  · rw [if_neg h, if_neg (fun e => h e.symm)]
    rw [← getP_append, ← hL]
theorem getP_withP (L : List Pl) (k : Nat) (k' : Int) : getP (withP L k) k' = if k' = k then some ((getP L k).getD (blank k)) else getP L k' := by
  unfold withP
  split
  · rename_i h
    obtain ⟨p, hp⟩ := Option.isSome_iff_exists.1 (getP_found.1 h)
    by_cases h2 : k' = k
    · rw [if_pos h2, h2, hp]
      rfl
    · rw [if_neg h2]
  · rename_i h
    have hn : getP L k = none := by
      cases e : getP L k with
      | none => rfl
      | some p => exact absurd (getP_found.2 (by rw [e]; rfl)) h
    rw [getP_insP L k k' hn, hn]
    rfl
/-- A sector that has been written, and the others. -/
theorem getP_writeL (L : List Pl) (k : Nat) (k' : Int) (bs : List UInt8) : getP (writeL L k bs) k' = if k' = k then some (putP ((getP L k).getD (blank k)) bs) else getP L k' := by
  unfold writeL
  rw [getP_modify (f := fun p => putP p bs) (fun _ => rfl) k k', getP_withP, getP_withP, if_pos rfl]
  split <;> rfl
theorem getP_safe (L : List Pl) (k : Int) : getP (L.map safeP) k = (getP L k).map safeP := getP_map (f := safeP) (fun _ => rfl) L k
/-- How many below a place aren't safe. -/
def openB (L : List Pl) (k : Int) : Nat := (L.filter fun p => p.opn && decide ((p.plc : Int) < k)).length
theorem bootL_plc (fs : List UInt8) : ∀ (j : Nat) (L : List Pl) (p : Pl), p ∈ bootL fs j L → ∃ q ∈ L, q.plc = p.plc
  | _, [], p, h => by cases h
  | j, q :: L, p, h => by
    unfold bootL at h
    split at h
    · rcases List.mem_cons.1 h with rfl | h
      · exact ⟨q, List.mem_cons_self .., rfl⟩
      · obtain ⟨r, h1, h2⟩ := bootL_plc fs _ L p h
        exact ⟨r, List.mem_cons_of_mem _ h1, h2⟩
    · rcases List.mem_cons.1 h with rfl | h
      · exact ⟨p, List.mem_cons_self .., rfl⟩
      · obtain ⟨r, h1, h2⟩ := bootL_plc fs _ L p h
        exact ⟨r, List.mem_cons_of_mem _ h1, h2⟩
/-- A sector when the power is back: its fate's number is how many below it weren't safe. -/
theorem getP_boot (fs : List UInt8) : ∀ (L : List Pl) (j : Nat) (k : Int), L.Pairwise (fun p q => p.plc < q.plc) → getP (bootL fs j L) k = (getP L k).map fun p => if p.opn then bootP p (fate fs (j + openB L k)) else p
  | [], _, _, _ => rfl
  | q :: L, j, k, h => by
    rw [List.pairwise_cons] at h
    have hz : (q.plc : Int) = k → openB (q :: L) k = 0 := fun e => by
      unfold openB
      rw [List.length_eq_zero_iff, List.filter_eq_nil_iff]
      intro p hp
      have : q.plc ≤ p.plc := by
        rcases List.mem_cons.1 hp with rfl | hp
        · exact Nat.le_refl _
        · exact Nat.le_of_lt (h.1 p hp)
      simp
      intro _
      omega
    unfold bootL
    by_cases ho : q.opn = true
    · rw [if_pos ho, getP_cons, getP_cons, getP_boot fs L (j + 1) k h.2]
      have e1 : ((bootP q (fate fs j)).plc : Int) = q.plc := rfl
      rw [e1]
      by_cases hk : (q.plc : Int) = k
      · rw [if_pos hk, if_pos hk, hz hk]
        simp [ho]
      · rw [if_neg hk, if_neg hk]
        cases hg : getP L k with
        | none => rfl
        | some p =>
          obtain ⟨h1, h2⟩ := getP_plc hg
          have h3 : (q.plc : Int) < k := by
            have := h.1 p h1
            omega
          have e2 : openB (q :: L) k = openB L k + 1 := by simp [openB, ho, h3]
          rw [e2, Nat.add_assoc, Nat.add_comm 1]
    · rw [if_neg ho, getP_cons, getP_cons, getP_boot fs L j k h.2]
      by_cases hk : (q.plc : Int) = k
      · rw [if_pos hk, if_pos hk]
        simp [ho]
      · rw [if_neg hk, if_neg hk]
        have e2 : openB (q :: L) k = openB L k := by simp [openB, ho]
        rw [e2]
theorem openB_zero (L : List Pl) : openB L 0 = 0 := by
  unfold openB
  rw [List.length_eq_zero_iff, List.filter_eq_nil_iff]
  intro p _
  simp
/-- One place on. -/
theorem openB_next : ∀ (L : List Pl) (k : Int), L.Pairwise (fun p q => p.plc < q.plc) → openB L (k + 1) = openB L k + match getP L k with | none => 0 | some p => if p.opn then 1 else 0
  | [], _, _ => rfl
  | q :: L, k, h => by
    rw [List.pairwise_cons] at h
    have ih := openB_next L k h.2
    rw [getP_cons]
    by_cases hk : (q.plc : Int) = k
    · rw [if_pos hk]
      have hn : getP L k = none := getP_none.2 fun p hp e => by
        have := h.1 p hp
        omega
      rw [hn] at ih
      have ih : openB L (k + 1) = openB L k := ih
      have h1 : (q.plc : Int) < k + 1 := by omega
      have h2 : ¬ (q.plc : Int) < k := by omega
      by_cases ho : q.opn = true
      · have e1 : openB (q :: L) (k + 1) = openB L (k + 1) + 1 := by simp [openB, ho, h1]
        have e2 : openB (q :: L) k = openB L k := by simp [openB, h2]
        rw [e1, e2, ih]
        simp [ho]
      · have e1 : openB (q :: L) (k + 1) = openB L (k + 1) := by simp [openB, ho]
        have e2 : openB (q :: L) k = openB L k := by simp [openB, ho]
        rw [e1, e2, ih]
        simp [ho]
    · rw [if_neg hk]
      have h1 : ((q.plc : Int) < k + 1) = ((q.plc : Int) < k) := by
        apply propext
        omega
      by_cases ho : (q.opn && decide ((q.plc : Int) < k)) = true
      · have e1 : openB (q :: L) (k + 1) = openB L (k + 1) + 1 := by
          unfold openB
          rw [List.filter_cons]
          simp only [h1, ho, if_true, List.length_cons]
        have e2 : openB (q :: L) k = openB L k + 1 := by
          unfold openB
          rw [List.filter_cons]
          simp only [ho, if_true, List.length_cons]
        rw [e1, e2, ih]
        omega
      · have e1 : openB (q :: L) (k + 1) = openB L (k + 1) := by
          unfold openB
          rw [List.filter_cons]
          simp only [h1, ho]
          rfl
        have e2 : openB (q :: L) k = openB L k := by
          unfold openB
          rw [List.filter_cons]
          simp only [ho]
          rfl
        rw [e1, e2, ih]
theorem rawP_get (S : DS) (k : Nat) : rawP S k = match getP S.L k with | none => z128 | some p => if p.torn then z128 else p.now := rfl
theorem readS_get (S : DS) (k : Int) : readS S k = if k < 0 ∨ 1024 ≤ k then ([], 1) else match getP S.L k with | none => (z128, 0) | some p => if p.torn then ([], 9) else (p.now, 0) := rfl
end Go.Proofs.YtbodiioemohenaaDoor

/- What an insertion and what a written sector make of a disk's list; a change's count. No program in sight. Condition: the disk is as a disk is. -/
namespace Go.Proofs.YtbodiioemohenaaDoor

/-- How many lie below a place. -/
def tw (L : List Pl) (k : Nat) : Nat := L.findIdx fun p => !decide (p.plc < k)
theorem tw_le (L : List Pl) (k : Nat) : tw L k ≤ L.length := List.findIdx_le_length
theorem tw_take (L : List Pl) (k : Nat) : L.takeWhile (fun p => decide (p.plc < k)) = L.take (tw L k) := List.takeWhile_eq_take_findIdx_not
theorem tw_drop (L : List Pl) (k : Nat) : L.dropWhile (fun p => decide (p.plc < k)) = L.drop (tw L k) := List.dropWhile_eq_drop_findIdx_not
theorem DOk.put {S : DS} (h : DOk S) {i : Nat} {p : Pl} (hi : i < S.L.length) (hp : p.plc = S.L[i].plc) (hn : p.now.length = 128) (hw : p.was.length = 128) {S' : DS} (hL : S'.L = S.L.set i p) : DOk S' := by
  refine ⟨?_, ?_, ?_⟩
  · rw [hL]
    intro q hq
    rcases List.mem_or_eq_of_mem_set hq with h1 | h1
    · exact h.low q h1
    · rw [h1, hp]
      exact h.low _ (List.getElem_mem hi)
  · rw [hL, List.pairwise_iff_getElem]
    intro a b ha hb hab
    have hr := h.rise
    rw [List.pairwise_iff_getElem] at hr
    rw [List.length_set] at ha hb
    have h1 := hr a b ha hb hab
    rw [List.getElem_set, List.getElem_set]
    by_cases ea : i = a
    · subst ea
      rw [if_pos rfl, if_neg (by omega), hp]
      exact h1
    · by_cases eb : i = b
      · subst eb
        rw [if_neg ea, if_pos rfl, hp]
        exact h1
      · rw [if_neg ea, if_neg eb]
        exact h1
  · rw [hL]
    intro q hq
    rcases List.mem_or_eq_of_mem_set hq with h1 | h1
    · exact h.full q h1
    · rw [h1]
      exact ⟨hn, hw⟩
theorem DOk.ops {S S' : DS} (h : DOk S) (hL : S'.L = S.L) : DOk S' := ⟨by rw [hL]; exact h.low, by rw [hL]; exact h.rise, by rw [hL]; exact h.full⟩
theorem burnS_L (S : DS) : (burnS S).1.L = S.L := by
  unfold burnS
  split
  · split <;> rfl
  · rfl
theorem no_plc {L : List Pl} {k : Int} (h : ¬ findL L k < L.length) : ∀ p ∈ L, (p.plc : Int) ≠ k := by
  intro p hp
  have h1 : findL L k = L.length := Nat.le_antisymm List.findIdx_le_length (by omega)
  unfold findL at h1
  rw [List.findIdx_eq_length] at h1
  simpa using h1 p hp
theorem take_lt {L : List Pl} {k : Nat} : ∀ p ∈ L.take (tw L k), p.plc < k := by
  intro p hp
  obtain ⟨j, hj, rfl⟩ := List.getElem_of_mem hp
  rw [List.length_take] at hj
  have h2 := List.not_of_lt_findIdx (p := fun p : Pl => !decide (p.plc < k)) (xs := L) (i := j) (by show j < tw L k; omega)
  simpa using h2
theorem drop_gt {L : List Pl} {k : Nat} (hr : L.Pairwise fun p q => p.plc < q.plc) (hno : ∀ p ∈ L, (p.plc : Int) ≠ k) : ∀ p ∈ L.drop (tw L k), k < p.plc := by
  intro p hp
  obtain ⟨j, hj, rfl⟩ := List.getElem_of_mem hp
  rw [List.length_drop] at hj
  have hl : tw L k < L.length := by omega
  have hw : L.findIdx (fun p : Pl => !decide (p.plc < k)) < L.length := hl
  have h2 := List.findIdx_getElem (w := hw)
  have h6 : (!decide ((L[tw L k]'hl).plc < k)) = true := h2
  have h3 : ¬ (L[tw L k]'hl).plc < k := by simpa using h6
  have h4 := hno _ (List.getElem_mem hl)
  rw [List.getElem_drop]
  rw [List.pairwise_iff_getElem] at hr
  by_cases e : j = 0
  · subst e
    simp only [Nat.add_zero]
    omega
  · have h5 := hr (tw L k) (tw L k + j) hl (by omega) (by omega)
    omega
theorem insP_eq (L : List Pl) (k : Nat) : insP L k = L.take (tw L k) ++ blank k :: L.drop (tw L k) := by
  unfold insP
  rw [tw_take, tw_drop]
theorem insP_ok {S S' : DS} {k : Nat} (h : DOk S) (hk : k < 1024) (hno : ¬ findL S.L k < S.L.length) (hL : S'.L = insP S.L k) : DOk S' := by
  have hr := h.rise
  rw [← List.take_append_drop (tw S.L k) S.L, List.pairwise_append] at hr
  have hz : z128.length = 128 := by simp [z128]
  refine ⟨?_, ?_, ?_⟩
  · rw [hL, insP_eq]
    intro p hp
    rcases List.mem_append.1 hp with h1 | h1
    · exact h.low p (List.mem_of_mem_take h1)
    · rcases List.mem_cons.1 h1 with h2 | h2
      · rw [h2]; exact hk
      · exact h.low p (List.mem_of_mem_drop h2)
  · rw [hL, insP_eq, List.pairwise_append]
    refine ⟨hr.1, List.pairwise_cons.2 ⟨fun q hq => drop_gt h.rise (no_plc hno) q hq, hr.2.1⟩, fun p hp q hq => ?_⟩
    rcases List.mem_cons.1 hq with h2 | h2
    · rw [h2]; exact take_lt p hp
    · exact hr.2.2 p hp q h2
  · rw [hL, insP_eq]
    intro p hp
    rcases List.mem_append.1 hp with h1 | h1
    · exact h.full p (List.mem_of_mem_take h1)
    · rcases List.mem_cons.1 h1 with h2 | h2
      · rw [h2]; exact ⟨hz, hz⟩
      · exact h.full p (List.mem_of_mem_drop h2)
theorem withP_found (L : List Pl) (k : Nat) : findL (withP L k) k < (withP L k).length := by
  unfold withP
  split
  · assumption
  · unfold findL
    rw [List.findIdx_lt_length]
    exact ⟨blank k, by rw [insP_eq]; simp, by simp [blank]⟩
theorem modify_set {α : Type _} (L : List α) (f : α → α) (i : Nat) (h : i < L.length) : L.modify i f = L.set i (f L[i]) := by
  apply List.ext_getElem?
  intro j
  rw [List.getElem?_modify, List.getElem?_set]
  by_cases e : i = j
  · subst e
    simp [h]
  · simp [e]
theorem writeL_set {L L' : List Pl} {n i : Nat} {bs : List UInt8} (hL : L' = withP L n) (hi : i = findL L' n) (h : i < L'.length) : writeL L n bs = L'.set i (putP L'[i] bs) := by
  subst hL hi
  unfold writeL
  exact modify_set _ _ _ h
theorem burnS_ops (S : DS) : (burnS S).1.ops = S.ops + 1 := by
  unfold burnS
  split
  · split <;> rfl
  · rfl
end Go.Proofs.YtbodiioemohenaaDoor
