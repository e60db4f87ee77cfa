/- Words for slices of bytes in memory: what a slice of bytes reads as, kept over draws, new blocks and whatever leaves old blocks alone. No condition of its own. -/
import Derived.Test.YtckgpocfcanokaaRows
import Derived.WalkKit
import Derived.WalkSpells
import Derived.WalkLawsBesides
import Derived.BigGuardPart
import Derived.Lib.Hide
import Derived.Handy
import Derived.Deep.QuietTactic
import Derived.BigQuiet
import Derived.Deep.Draws
import Derived.Deep.AppendLies
import Derived.Laws.AppendOwnNone
namespace Go.Proofs.Ytckgpocfcanokaa
open Go.RowKit

/-- The value of a byte. -/
def bv (b : UInt8) : Value := .int .u8 (b.toNat : Int)
theorem bv_one : ∀ (xs : List UInt8), ∀ u ∈ xs.map bv, u.oneCell' = true := by
  intro xs u hu
  obtain ⟨b, _, rfl⟩ := List.mem_map.1 hu
  rfl

/-- The slice v reads as the bytes xs. -/
def Rd (w : World) (v : Value) (xs : List UInt8) : Prop :=
  (∃ A c, v = .slice A 0 c ∧ c ≤ maxLen ∧ (A = none → c = 0) ∧ xs = []) ∨
  ∃ b off c, v = .slice (some ⟨b, off, none⟩) xs.length c ∧ b < w.heap.size ∧ xs.length ≤ c ∧ c ≤ maxLen ∧ ∀ i (h : i < xs.length), w.cell? ⟨b, off + i, none⟩ = some (.int .u8 ((xs[i]).toNat : Int))

theorem Rd.keep {w w' : World} {v : Value} {xs : List UInt8} (h : Rd w v xs) (hs : w.heap.size ≤ w'.heap.size) (hk : ∀ p : Addr, p.block < w.heap.size → w'.cell? p = w.cell? p) : Rd w' v xs := by
  rcases h with h | ⟨b, off, c, h1, h2, h3, h4, h5⟩
  · exact .inl h
  · exact .inr ⟨b, off, c, h1, by omega, h3, h4, fun i hi => (hk _ h2).trans (h5 i hi)⟩
theorem Rd.below {w w' : World} {v : Value} {xs : List UInt8} (h : Rd w v xs) (hb : Below w.heap.size w w') : Rd w' v xs := h.keep hb.size fun _ hp => hb.cell hp
theorem Rd.drewN {w : World} {v : Value} {xs : List UInt8} (h : Rd w v xs) (n : Nat) : Rd (w.drewN n) v xs := h
theorem Rd.drew {w : World} {v : Value} {xs : List UInt8} (h : Rd w v xs) : Rd w.drew v xs := h
theorem Rd.alloc {w : World} {v : Value} {xs : List UInt8} (h : Rd w v xs) (o : Obj) : Rd (w.alloc o) v xs := h.keep (by simp) fun p hp => World.cell?_alloc_lt w o p hp
theorem Rd.nil (w : World) : Rd w (.slice none 0 0) [] := .inl ⟨none, 0, rfl, by simp, fun _ => rfl, rfl⟩
/-- As a slice with an address that is asked for only where there is an element. -/
theorem Rd.form {w : World} {v : Value} {xs : List UInt8} (h : Rd w v xs) : ∃ A c, v = .slice A xs.length c ∧ xs.length ≤ c ∧ c ≤ maxLen ∧
    (0 < xs.length → ∃ b off, A = some ⟨b, off, none⟩ ∧ b < w.heap.size ∧ ∀ i (h : i < xs.length), w.cell? ⟨b, off + i, none⟩ = some (.int .u8 ((xs[i]).toNat : Int))) := by
  rcases h with ⟨A, c, rfl, hc, _, rfl⟩ | ⟨b, off, c, h1, h2, h3, h4, h5⟩
  · exact ⟨A, c, rfl, by simp, hc, fun h => by simp at h⟩
  · exact ⟨_, c, h1, h3, h4, fun _ => ⟨b, off, rfl, h2, h5⟩⟩
theorem Rd.of_own {w : World} {base : Nat} {t : TypeId} {v : Value} {n : Nat} {xs : List UInt8} (h : w.ownsRow base t 1 v n (xs.map bv)) : Rd w v xs := by
  have hl : xs.length = n := by simpa using h.1
  rcases h.2 with ⟨rfl, h0⟩ | ⟨g, cap, cur, rfl, hg, hh, hn, hc, hs, ht⟩
  · exact .inl ⟨none, 0, rfl, by simp, fun _ => rfl, List.eq_nil_of_length_eq_zero (by omega)⟩
  · refine .inr ⟨g, 0, cap, by rw [hl], ?_, by omega, hc, fun i hi => ?_⟩
    · rcases Nat.lt_or_ge g w.heap.size with h1 | h1
      · exact h1
      · rw [Array.getElem?_eq_none h1] at hh; cases hh
    · have h2 := h.cellAt (g := g) i (by omega)
      rw [Nat.zero_add, h2, List.getElem?_map, List.getElem?_eq_getElem hi]
      rfl
/-- The world after a call that leaves all that was there. -/
def Fresh (w : World) (ys : List UInt8) (e : Ending) (w' : World) : Prop := ∃ v, e = .returned v ∧ Rd w' v ys ∧ Below w.heap.size w w'
/-- The same, and the row is the call's own. -/
def Own (w : World) (t : TypeId) (ys : List UInt8) (e : Ending) (w' : World) : Prop := ∃ v, e = .returned v ∧ w'.ownsRow w.heap.size t 1 v ys.length (ys.map bv) ∧ Below w.heap.size w w'
theorem Own.fresh {w : World} {t : TypeId} {ys : List UInt8} {e : Ending} {w' : World} (h : Own w t ys e w') : Fresh w ys e w' := by
  obtain ⟨v, h1, h2, h3⟩ := h
  exact ⟨v, h1, Rd.of_own h2, h3⟩
theorem below_drewN {B : Nat} {a w : World} (h : Below B a w) (n : Nat) : Below B a (w.drewN n) := ⟨h.os, h.tape, h.output, h.size, h.block⟩
theorem ret_b {a b : Bool} (h : a = b) : Ending.returned (.bool a) = .returned (.bool b) := by rw [h]
theorem ret_i {k : IntKind} {a b : Int} (h : a = b) : Ending.returned (.int k a) = .returned (.int k b) := by rw [h]
theorem ret_ii {k l : IntKind} {a b c d : Int} (h : a = c) (h' : b = d) : Ending.returned (.tuple #[.int k a, .int l b]) = .returned (.tuple #[.int k c, .int l d]) := by rw [h, h']

/-- append onto a row of the call's own, from whatever reads as bytes. -/
theorem wpList_append_rd {P : Program} (w : World) {ops : Array Oper} {rest : List Oper} {o : Oper} {a : Act} {Q : Exit → Act → World → Prop} (hgd : o.guard = none) (s x : Operand) (t : TypeId)
    (ho : o.op = .call { callee := .builtin .append, args := #[s, x], argTypes := #[t, t] })
    (base : Nat) (e : TypeId) (i : TypeInfo) (z : Value) (ht : P.underlying t = some (.slice e)) (hi : P.info? e = some i) (hz : i.zero = some z)
    (hsize : i.size = 1) (hby : i.bytes = 1) (hzs : z.cells.size = 1)
    (v : Value) (n : Nat) (xs : List Value) (hs : a.eval s = v) (hown : w.ownsRow base e 1 v n xs)
    (vx : Value) (ys : List UInt8) (hx : a.eval x = vx) (hr : Rd w vx ys)
    (hb : n + ys.length ≤ 140737488355328) (hbase : base ≤ w.heap.size)
    (h : ∀ v' w', w'.ownsRow base e 1 v' (n + ys.length) (xs ++ ys.map bv) → w.grownBy w' v.ownBlock → wpList P ops Q rest (a.put o.dst v') w') : wpList P ops Q (o :: rest) a w := by
  rcases hr with ⟨A, c, rfl, hc, hA, rfl⟩ | ⟨b, off, c, h1, h2, h3, h4, h5⟩
  · rcases A with _ | ad
    · rw [hA rfl] at hx
      exact wpList_append_own_none hgd s x t ho base e i 1 ht hi v n xs hs hown hx (h v w (by simpa using hown) (World.grownBy.refl w _))
    · exact wpList_append_own w hgd s x t ho base e i z 1 1 ht hi hz hsize hby hzs (by omega) v n xs hs hown ad 0 c [] hx (by simp) (by simp) (by simp) (by unfold maxLen; simp at hb; omega) (by simp at hb; omega) hbase fun v' w' k1 k2 _ => h v' w' (by simpa using k1) k2
  · refine wpList_append_own w hgd s x t ho base e i z 1 1 ht hi hz hsize hby hzs (by omega) v n xs hs hown ⟨b, off, none⟩ ys.length c (ys.map bv) (by rw [hx, h1]) (by simp) ?_ (bv_one ys) (by unfold maxLen; omega) (by omega) hbase fun v' w' k1 k2 _ => h v' w' k1 k2
    intro j u hu
    rw [List.getElem?_map] at hu
    by_cases hj : j < ys.length
    · rw [List.getElem?_eq_getElem hj] at hu
      obtain rfl : bv ys[j] = u := by simpa using hu
      have h6 := h5 j hj
      by_cases h0 : j = 0
      · subst h0; simpa [Addr.add, bv] using h6
      · simpa [Addr.add, h0, bv] using h6
    · rw [List.getElem?_eq_none (by omega)] at hu
      simp at hu
theorem own_ge {w : World} {base : Nat} {t : TypeId} {v : Value} {n : Nat} {xs : List Value} (h : w.ownsRow base t 1 v n xs) : ∀ k, v.ownBlock = some k → base ≤ k := fun k hk => (h.lt k hk).1
theorem rd_one {w : World} {t : TypeId} {z : Int} {b : UInt8} (hz : z = (b.toNat : Int)) : Rd (w.alloc (.cells #[.int .u8 z] t)) (.slice (some ⟨w.heap.size, 0, none⟩) 1 1) [b] := by
  subst hz
  refine .inr ⟨w.heap.size, 0, 1, rfl, by simp, by simp, by unfold maxLen; omega, fun i hi => ?_⟩
  obtain rfl : i = 0 := by simpa using hi
  simp
theorem info_u8 : (Try.prog.info? 5).map (fun i => (i.zero, i.size, i.bytes)) = some (some (.int .u8 0), 1, 1) := by kernel_rfl

/-- A slice of bytes that came in reads as bytes. -/
theorem rd_of_row {W : World} {x : Addr} {l c : Nat} {zs : List Int} (hl : l ≤ c) (hm : c ≤ maxLen) (hz : zs.length = c) (hcell : ∀ i, i < zs.length → W.cell? (x.add i) = some (.int .u8 (zs.getD i 0))) (hwz : ∀ n ∈ zs, (Lit.int .u8 n).wf = true) :
    ∃ xs, Rd W (.slice (some x) l c) xs := by
  by_cases h0 : l = 0
  · subst h0
    exact ⟨[], .inl ⟨some x, c, rfl, hm, (fun h => by cases h), rfl⟩⟩
  · obtain ⟨b, off, spot⟩ := x
    have h1 := hcell 0 (by omega)
    have hs : spot = none := by simpa [Addr.add] using World.cell?_spot h1
    subst hs
    have h1' : W.cell? ⟨b, off, none⟩ = some (.int .u8 (zs.getD 0 0)) := by simpa [Addr.add] using h1
    have hlen : ((zs.take l).map fun z => UInt8.ofNat z.toNat).length = l := by simp; omega
    refine ⟨(zs.take l).map fun z => UInt8.ofNat z.toNat, .inr ⟨b, off, c, by rw [hlen], World.block_lt_of_cell? W _ h1', by rw [hlen]; exact hl, hm, fun i hi => ?_⟩⟩
    rw [hlen] at hi
    have h2 := hcell i (by omega)
    have e1 : ((⟨b, off, none⟩ : Addr).add i) = ⟨b, off + i, none⟩ := by
      by_cases hi0 : i = 0
      · subst hi0; rfl
      · simp [Addr.add, hi0]
    have e2 : zs.getD i 0 = zs[i]'(by omega) := by simp [List.getD, List.getElem?_eq_getElem (show i < zs.length by omega)]
    rw [e1, e2] at h2
    have hw := bounds_u8 (hwz (zs[i]'(by omega)) (List.getElem_mem _))
    rw [h2]
    congr 2
    simp only [List.getElem_map, List.getElem_take, UInt8.toNat_ofNat']
    omega
theorem Rd.take {w : World} {A : Option Addr} {n c : Nat} {xs : List UInt8} (h : Rd w (.slice A n c) xs) {k : Nat} (hk : k ≤ xs.length) : Rd w (.slice A k c) (xs.take k) := by
  rcases h with ⟨A', c', h1, h2, h3, rfl⟩ | ⟨b, off, c', h1, h2, h3, h4, h5⟩
  · injection h1 with e1 e2 e3
    subst e1 e3
    obtain rfl : k = 0 := by simpa using hk
    exact .inl ⟨A, c, rfl, h2, h3, rfl⟩
  · injection h1 with e1 e2 e3
    subst e1 e3
    have hl : (xs.take k).length = k := by simp; omega
    refine .inr ⟨b, off, c, by rw [hl], h2, by omega, h4, fun i hi => ?_⟩
    rw [hl] at hi
    rw [h5 i (by omega), List.getElem_take]
/-- append of one element, which lies in a new block of its own, onto a row of the call's own. -/
theorem wpList_append_one {P : Program} (w : World) (u : Value) (e0 : TypeId) {ops : Array Oper} {rest : List Oper} {o : Oper} {a : Act} {Q : Exit → Act → World → Prop} (hgd : o.guard = none) (s x : Operand) (t : TypeId)
    (ho : o.op = .call { callee := .builtin .append, args := #[s, x], argTypes := #[t, t] })
    (base : Nat) (e : TypeId) (i : TypeInfo) (z : Value) (bytes : Nat) (ht : P.underlying t = some (.slice e)) (hi : P.info? e = some i) (hz : i.zero = some z)
    (hsize : i.size = 1) (hby : i.bytes = bytes) (hzs : z.cells.size = 1) (hu : u.oneCell' = true)
    (v : Value) (n : Nat) (xs : List Value) (hs : a.eval s = v) (hown : w.ownsRow base e 1 v n xs)
    (hx : a.eval x = .slice (some ⟨w.heap.size, 0, none⟩) 1 1)
    (h63 : n + 1 ≤ maxLen) (hb : (n + 1) * bytes ≤ 140737488355328) (hbase : base ≤ w.heap.size)
    (h : ∀ v' w', w'.ownsRow base e 1 v' (n + 1) (xs ++ [u]) → Below base w w' → wpList P ops Q rest (a.put o.dst v') w') : wpList P ops Q (o :: rest) a (w.alloc (.cells #[u] e0)) := by
  refine wpList_append_own _ hgd s x t ho base e i z 1 bytes ht hi hz hsize hby hzs (by omega) v n xs hs (hown.alloc _) ⟨w.heap.size, 0, none⟩ 1 1 [u] hx rfl ?_ (by simpa using hu) h63 hb (by simp; omega) fun v' w' k1 k2 _ => h v' w' k1 ?_
  · intro j y hy
    have hj : j = 0 := by
      rcases Nat.eq_zero_or_pos j with h0 | h0
      · exact h0
      · rw [List.getElem?_eq_none (by simp; omega)] at hy; cases hy
    subst hj
    have hy' : u = y := by simpa using hy
    subst hy'
    simp [Addr.add]
  · exact ((Below.refl _ _).alloc hbase _).grown k2 (by simp; omega) (fun k hk => (hown.lt k hk).1)
end Go.Proofs.Ytckgpocfcanokaa
