/- Part 6 of the words that the laws share: RefWord, SpreadA, Turned, SpreadB, Spread. No condition of its own: each theorem says its own. -/
import Derived.Test.YtbodiioemohenaaDoorPart5
import Derived.Test.YtbodiioemohenaaDoorPart2
import Derived.Deep.RegionHeld3
import Derived.Deep.DeepCutAuto
import Derived.StillTailTactics
import Derived.Laws.BitsAllLaws

/- Words for the sums of SHA-256: slices of uint32, the states at the heads of its loops. No condition of its own. -/
namespace Go.Proofs.YtbodiioemohenaaDoor
open Go.RowKit

def slLen : Value → Nat
  | .slice _ n _ => n
  | _ => 0
/-- The bytes behind which blocks are whole. -/
def PadRel (w : World) (B : Nat) (xs : List UInt8) (v : Value) (wr : World) : Prop :=
  ∃ j g c : Nat, v = .slice (some ⟨g, 0, none⟩) (xs.length + 1 + j) c ∧ j ≤ padN xs.length ∧ wr.ownsRow B 5 1 v (xs.length + 1 + j) ((xs ++ [128] ++ List.replicate j 0).map bv) ∧ Below B w wr ∧ xs.length + 1 + j ≤ c ∧ c ≤ maxLen
theorem padRel_mk {w wr : World} {B : Nat} {xs : List UInt8} {v : Value} {j : Nat} (hj : j ≤ padN xs.length) (h : wr.ownsRow B 5 1 v (xs.length + 1 + j) ((xs ++ [128] ++ List.replicate j 0).map bv)) (hb : Below B w wr) : PadRel w B xs v wr := by
  obtain ⟨g, c, hv, h1, h2⟩ := own_form h (by omega)
  exact ⟨j, g, c, hv, hj, h, hb, h1, h2⟩

/-- The state at the head of the loop over blocks. -/
def BlkRel (w : World) (m : List UInt8) (h at_ : Value) (wr : World) : Prop :=
  ∃ q : Nat, at_ = .int .i64 (64 * (q : Int)) ∧ 64 * q ≤ m.length ∧ Rw wr h (blocks m q).list ∧ Below w.heap.size w wr
def Out0 (W : World) (b : Nat) (t : TypeId) : Prop := W.heap[b]? = some (.cells (List.replicate 32 (.int .u8 0)).toArray t)
theorem first_list (m : List UInt8) : (blocks m 0).list = h0T := rfl

/-- The state at the head of the loop over a block's words. -/
def WordsRel (m : List UInt8) (p : Nat) (wB : World) (ws i : Value) (wr : World) : Prop :=
  ∃ j : Nat, i = .int .i64 (j : Int) ∧ j ≤ 16 ∧ wr.ownsRow wB.heap.size 121 1 ws j ((wordsAt m p j).map wv) ∧ Below wB.heap.size wB wr

/-- The state at the head of the loop over the further words. -/
def SchedRel (ws : List Nat) (wB : World) (v i : Value) (wr : World) : Prop :=
  ∃ k g c : Nat, i = .int .i64 (k : Int) ∧ 16 ≤ k ∧ k ≤ 64 ∧ v = .slice (some ⟨g, 0, none⟩) k c ∧ wr.ownsRow wB.heap.size 121 1 v k ((schedN (k - 16) ws).map wv) ∧ Below wB.heap.size wB wr ∧ k ≤ c ∧ c ≤ maxLen
theorem schedRel_mk {ws : List Nat} {wB wr : World} {v : Value} {k : Nat} (h1 : 16 ≤ k) (h2 : k ≤ 64) (h : wr.ownsRow wB.heap.size 121 1 v k ((schedN (k - 16) ws).map wv)) (hb : Below wB.heap.size wB wr) : SchedRel ws wB v (.int .i64 (k : Int)) wr := by
  obtain ⟨g, c, hv, e1, e2⟩ := own_form h (by omega)
  exact ⟨k, g, c, rfl, h1, h2, hv, h, hb, e1, e2⟩
theorem word_at {wr : World} {B k g c j : Nat} {ds : List Nat} (hlt : ∀ x ∈ ds, x < 4294967296) (h : wr.ownsRow B 121 1 (.slice (some ⟨g, 0, none⟩) k c) k (ds.map wv)) (hl : ds.length = k) (hj : j < k) :
    ∃ a : Nat, wr.cell? ⟨g, j, none⟩ = some (.int .u32 (a : Int)) ∧ (a : Int) ≤ 4294967295 ∧ ds.getD j 0 = a := by
  have hj' : j < ds.length := by omega
  refine ⟨ds[j], ?_, by have := hlt _ (List.getElem_mem hj'); omega, by simp [hj']⟩
  rw [h.cellAt j (by omega), List.getElem?_map, List.getElem?_eq_getElem hj']
  rfl
theorem sg0_bits {x : Nat} (h : x < 4294967296) : bits .xor .u32 (bits .xor .u32 ((rotN 7 x : Nat) : Int) ((rotN 18 x : Nat) : Int)) ((cutN 3 x : Nat) : Int) = ((sg0 x : Nat) : Int) := by
  rw [u32_xor_nat _ _ (rotN_lt h _) (rotN_lt h _), u32_xor_nat _ _ (xor_lt32 (rotN_lt h _) (rotN_lt h _)) (cutN_lt h _)]; rfl
theorem sg1_bits {x : Nat} (h : x < 4294967296) : bits .xor .u32 (bits .xor .u32 ((rotN 17 x : Nat) : Int) ((rotN 19 x : Nat) : Int)) ((cutN 10 x : Nat) : Int) = ((sg1 x : Nat) : Int) := by
  rw [u32_xor_nat _ _ (rotN_lt h _) (rotN_lt h _), u32_xor_nat _ _ (xor_lt32 (rotN_lt h _) (rotN_lt h _)) (cutN_lt h _)]; rfl
theorem Sg0_bits {x : Nat} (h : x < 4294967296) : bits .xor .u32 (bits .xor .u32 ((rotN 2 x : Nat) : Int) ((rotN 13 x : Nat) : Int)) ((rotN 22 x : Nat) : Int) = ((Sg0 x : Nat) : Int) := by
  rw [u32_xor_nat _ _ (rotN_lt h _) (rotN_lt h _), u32_xor_nat _ _ (xor_lt32 (rotN_lt h _) (rotN_lt h _)) (rotN_lt h _)]; rfl
theorem Sg1_bits {x : Nat} (h : x < 4294967296) : bits .xor .u32 (bits .xor .u32 ((rotN 6 x : Nat) : Int) ((rotN 11 x : Nat) : Int)) ((rotN 25 x : Nat) : Int) = ((Sg1 x : Nat) : Int) := by
  rw [u32_xor_nat _ _ (rotN_lt h _) (rotN_lt h _), u32_xor_nat _ _ (xor_lt32 (rotN_lt h _) (rotN_lt h _)) (rotN_lt h _)]; rfl
theorem maj_bits {a b c : Nat} (ha : a < 4294967296) (hb : b < 4294967296) (hc : c < 4294967296) : bits .xor .u32 (bits .xor .u32 (bits .and .u32 (a : Int) (b : Int)) (bits .and .u32 (a : Int) (c : Int))) (bits .and .u32 (b : Int) (c : Int)) = ((majN a b c : Nat) : Int) := by
  rw [u32_and_nat _ _ ha hb, u32_and_nat _ _ ha hc, u32_and_nat _ _ hb hc, u32_xor_nat _ _ (and_lt32 ha) (and_lt32 ha), u32_xor_nat _ _ (xor_lt32 (and_lt32 ha) (and_lt32 ha)) (and_lt32 hb)]; rfl
theorem ch_bits {e f g : Nat} (he : e < 4294967296) (hf : f < 4294967296) (hg : g < 4294967296) : bits .xor .u32 (bits .and .u32 (e : Int) (f : Int)) (bits .and .u32 (4294967295 - (e : Int)) (g : Int)) = ((chN e f g : Nat) : Int) := by
  rw [show (4294967295 : Int) - (e : Int) = ((4294967295 - e : Nat) : Int) by omega, u32_and_nat _ _ he hf, u32_and_nat _ _ (by omega) hg, u32_xor_nat _ _ (and_lt32 he) (and_lt32 (by omega))]; rfl
theorem list_lt {s : St} (h : s.ok) : ∀ x ∈ s.list, x < 4294967296 := by
  obtain ⟨h1, h2, h3, h4, h5, h6, h7, h8⟩ := h
  intro x hx
  simp only [St.list, List.mem_cons, List.not_mem_nil, or_false] at hx
  rcases hx with rfl | rfl | rfl | rfl | rfl | rfl | rfl | rfl <;> assumption
theorem kT_lt : ∀ x ∈ kT, x < 4294967296 := by decide +kernel
end Go.Proofs.YtbodiioemohenaaDoor

/- sha.spreadOut: the loop over the sixteen words of the block. Conditions: a block of 64 bytes. -/
namespace Go.Proofs.YtbodiioemohenaaDoor
open Go.RowKit

noncomputable def body_first : Code := (((Tryd.f93.body.map loopsOf).getD [])[0]?).getD .skip
/-- Some words, and noughts behind them. -/
def wordsC (ds : List Nat) : List Value := ds.map wv ++ List.replicate (64 - ds.length) (.int .u32 0)
theorem wordsC_set {ds : List Nat} {x : Nat} (h : ds.length < 64) : (wordsC ds).set ds.length (wv x) = wordsC (ds ++ [x]) := by
  unfold wordsC
  rw [List.set_append_right _ _ (by simp), List.map_append, List.length_append, show 64 - ds.length = (64 - (ds.length + 1)) + 1 by omega, List.replicate_succ, List.append_assoc]
  simp
theorem wordsC_get {ds : List Nat} {j : Nat} (h : j < ds.length) : (wordsC ds)[j]? = some (.int .u32 ((ds.getD j 0 : Nat) : Int)) := by
  unfold wordsC
  rw [List.getElem?_append_left (by simpa using h)]
  simp [h, wv]
theorem wordsC_length {ds : List Nat} (h : ds.length ≤ 64) : (wordsC ds).length = 64 := by simp [wordsC]; omega
theorem be_bits (b0 b1 b2 b3 : UInt8) : bits .or .u32 (bits .or .u32 (bits .or .u32 ((b0.toNat : Int) * 16777216) ((b1.toNat : Int) * 65536)) ((b2.toNat : Int) * 256)) (b3.toNat : Int) = ((numBE [b0, b1, b2, b3] : Nat) : Int) := by
  have g0 := b0.toNat_lt
  have g1 := b1.toNat_lt
  have g2 := b2.toNat_lt
  have g3 := b3.toNat_lt
  rw [show (b0.toNat : Int) * 16777216 = ((b0.toNat * 16777216 : Nat) : Int) by omega, show (b1.toNat : Int) * 65536 = ((b1.toNat * 65536 : Nat) : Int) by omega, show (b2.toNat : Int) * 256 = ((b2.toNat * 256 : Nat) : Int) by omega]
  rw [u32_or_nat _ _ (by omega) (by omega), nat_join 24 _ _ (by omega) (by omega), u32_or_nat _ _ (by omega) (by omega), nat_join 16 _ _ (by omega) (by omega), u32_or_nat _ _ (by omega) (by omega), nat_join 8 _ _ (by omega) (by omega)]
  simp only [numBE, List.foldl_cons, List.foldl_nil]
  omega
def FstRel (bs : List UInt8) (w : World) (S : Nat) (i : Value) (wr : World) : Prop :=
  ∃ j : Nat, i = .int .i64 (j : Int) ∧ j ≤ 16 ∧ Blk wr S 140 (wordsC (wordsAt bs 0 j)) ∧ Below S w wr
set_option maxRecDepth 100000 in
set_option maxHeartbeats 2000000 in
theorem first_loop (c1 c2 c4 c5 c6 c7 c8 c9 c10 c12 c13 c14 c15 c16 c17 c18 c19 c20 c21 c22 c23 c24 c25 c26 c27 c28 c29 c30 c31 c32 c33 c34 c35 c36 c37 c38 c39 c40 c41 c42 c43 c44 c45 c46 c47 c48 c49 c50 c51 c52 c53 c54 c55 c56 c57 c58 c59 c60 c61 c62 c63 c64 c65 c66 c67 c68 c69 c70 c71 c72 c73 c74 c75 c76 c77 c78 c79 c80 c81 c82 c83 c84 c85 c86 c87 c88 c89 c90 : Value) (bs : List UInt8) (hl : bs.length = 64) (w : World) (b S : Nat) (hb : Hid (Blk w b 129 (bs.map bv))) (hlt : b < S) (h0 : Hid (Blk w S 140 (wordsC []))) {Q : Exit → Act → World → Prop}
    (HQ : Hid (∀ (u4 u5 u12 u13 u14 u15 u16 u17 u18 u19 u20 u21 u22 u23 u24 u25 u26 u27 u28 u29 u30 u31 u32 u33 u34 u35 u36 u37 u38 u39 u40 u41 u42 u43 u44 u45 u46 : Value) (wx : World), Hid (Blk wx S 140 (wordsC (wordsAt bs 0 16))) → Hid (Below S w wx) → Q (.exit 0) ⟨List.toArray ((.pointer (some ⟨b, 0, none⟩)) :: c1 :: c2 :: (.pointer (some ⟨S, 0, none⟩)) :: u4 :: u5 :: c6 :: c7 :: c8 :: c9 :: c10 :: (.int .i64 16) :: u12 :: u13 :: u14 :: u15 :: u16 :: u17 :: u18 :: u19 :: u20 :: u21 :: u22 :: u23 :: u24 :: u25 :: u26 :: u27 :: u28 :: u29 :: u30 :: u31 :: u32 :: u33 :: u34 :: u35 :: u36 :: u37 :: u38 :: u39 :: u40 :: u41 :: u42 :: u43 :: u44 :: u45 :: u46 :: c47 :: c48 :: c49 :: c50 :: c51 :: c52 :: c53 :: c54 :: c55 :: c56 :: c57 :: c58 :: c59 :: c60 :: c61 :: c62 :: c63 :: c64 :: c65 :: c66 :: c67 :: c68 :: c69 :: c70 :: c71 :: c72 :: c73 :: c74 :: c75 :: c76 :: c77 :: c78 :: c79 :: c80 :: c81 :: c82 :: c83 :: c84 :: c85 :: c86 :: c87 :: c88 :: c89 :: c90 :: []), []⟩ wx)) :
    (Code.loop body_first).wp Tryd.prog Q ⟨List.toArray ((.pointer (some ⟨b, 0, none⟩)) :: c1 :: c2 :: (.pointer (some ⟨S, 0, none⟩)) :: c4 :: c5 :: c6 :: c7 :: c8 :: c9 :: c10 :: (.int .i64 0) :: c12 :: c13 :: c14 :: c15 :: c16 :: c17 :: c18 :: c19 :: c20 :: c21 :: c22 :: c23 :: c24 :: c25 :: c26 :: c27 :: c28 :: c29 :: c30 :: c31 :: c32 :: c33 :: c34 :: c35 :: c36 :: c37 :: c38 :: c39 :: c40 :: c41 :: c42 :: c43 :: c44 :: c45 :: c46 :: c47 :: c48 :: c49 :: c50 :: c51 :: c52 :: c53 :: c54 :: c55 :: c56 :: c57 :: c58 :: c59 :: c60 :: c61 :: c62 :: c63 :: c64 :: c65 :: c66 :: c67 :: c68 :: c69 :: c70 :: c71 :: c72 :: c73 :: c74 :: c75 :: c76 :: c77 :: c78 :: c79 :: c80 :: c81 :: c82 :: c83 :: c84 :: c85 :: c86 :: c87 :: c88 :: c89 :: c90 :: []), []⟩ w := by
  obtain ⟨i0, hi, hz0, hz1, hz2⟩ := info_parts info_u8
  have HL := Lib.hid hl
  clear hl
  unfold body_first
  conv => arg 2; arg 1; whnf
  go_loopw [11] (fun i wx => FstRel bs w S i wx) (fun i _ => 16 - (intOf i).toNat)
  case atStart => exact ⟨0, rfl, by omega, h0.out, Below.refl _ _⟩
  case round =>
    obtain ⟨j, rfl, hj, hblk, bl⟩ := hrel
    by_cases hlt2 : j < 16
    · have hI : (j : Int) < 16 := by omega
      have hI64 : (j : Int) < 64 := by omega
      have hbr := hb.out.below bl hlt
      have h4 : 4 * j + 3 < bs.length := by have := HL.out; omega
      have z0 := hbr.cell (4 * j)
      have z1 := hbr.cell (4 * j + 1)
      have z2 := hbr.cell (4 * j + 2)
      have z3 := hbr.cell (4 * j + 3)
      rw [List.getElem?_map, List.getElem?_eq_getElem (by omega)] at z0 z1 z2 z3
      obtain ⟨b0, e0⟩ : ∃ x : UInt8, x = bs[4 * j] := ⟨_, rfl⟩
      obtain ⟨b1, e1⟩ : ∃ x : UInt8, x = bs[4 * j + 1] := ⟨_, rfl⟩
      obtain ⟨b2, e2⟩ : ∃ x : UInt8, x = bs[4 * j + 2] := ⟨_, rfl⟩
      obtain ⟨b3, e3⟩ : ∃ x : UInt8, x = bs[4 * j + 3] := ⟨_, rfl⟩
      rw [← e0] at z0
      rw [← e1] at z1
      rw [← e2] at z2
      rw [← e3] at z3
      have HW : Hid (wordsAt bs 0 (j + 1) = wordsAt bs 0 j ++ [numBE [b0, b1, b2, b3]]) := by
        show wordsAt bs 0 (j + 1) = _
        rw [wordsAt, e0, e1, e2, e3]
        congr 3
        rw [Nat.zero_add, List.drop_eq_getElem_cons (by omega), List.drop_eq_getElem_cons (by omega), List.drop_eq_getElem_cons (by omega), List.drop_eq_getElem_cons (by omega)]
        rfl
      clear e0 e1 e2 e3
      have y0 : wr.cell? ⟨b, 4 * j, none⟩ = some (.int .u8 (b0.toNat : Int)) := z0
      have y1 : wr.cell? ⟨b, 4 * j + 1, none⟩ = some (.int .u8 (b1.toNat : Int)) := z1
      have y2 : wr.cell? ⟨b, 4 * j + 2, none⟩ = some (.int .u8 (b2.toNat : Int)) := z2
      have y3 : wr.cell? ⟨b, 4 * j + 3, none⟩ = some (.int .u8 (b3.toNat : Int)) := z3
      have g0 : (b0.toNat : Int) ≤ 255 := by have := b0.toNat_lt; omega
      have g1 : (b1.toNat : Int) ≤ 255 := by have := b1.toNat_lt; omega
      have g2 : (b2.toNat : Int) ≤ 255 := by have := b2.toNat_lt; omega
      have g3 : (b3.toNat : Int) ≤ 255 := by have := b3.toNat_lt; omega
      clear z0 z1 z2 z3 h4 hbr
      have hwl : (wordsAt bs 0 j).length = j := wordsAt_length _ _ _
      have HWL := Lib.hid hwl
      have c0 : wr.cell? ⟨S, j, none⟩ = some (.int .u32 0) := by
        rw [hblk.cell j]
        unfold wordsC
        rw [List.getElem?_append_right (by simp [hwl]), List.length_map, hwl, Nat.sub_self, List.getElem?_replicate, if_pos (by omega)]
      have f0 : wr.frozen? ⟨S, j, none⟩ = false := hblk.free j
      have HB := Lib.hid hblk
      have HBL := Lib.hid bl
      have i1 : ((j : Int) * 4).toNat = 4 * j := by omega
      have i2 : (((j : Int) + 1) * 4).toNat = 4 * j + 4 := by omega
      have hsl := fun W => run_slice_arr (P := Tryd.prog) W 129 64 5 i0 Tryd.underlying129 hi hz1 b (4 * j) (4 * j + 4) ((j : Int) * 4) (((j : Int) + 1) * 4) (by omega) (by omega) (by omega) (by omega) (by omega)
      have e5 : 4 * j + 4 - 4 * j = 4 := by omega
      rw [e5] at hsl
      clear hwl hblk bl i1 i2 e5
      go_wp2_with (fail)
      go_still_tail 24, (by kernel_rfl)
      change wpList _ _ _ _ _ wr.drew
      go_wp2_with (fail)
      go_roundw
      case rel =>
        rw [be_bits]
        refine ⟨j + 1, by go_num, by omega, ?_, (HBL.out.setCell (p := ⟨S, j, none⟩) (Nat.le_refl _) _).drew⟩
        have h := (HB.out.set j (wv (numBE [b0, b1, b2, b3]))).drew
        have e := wordsC_set (ds := wordsAt bs 0 j) (x := numBE [b0, b1, b2, b3]) (by rw [HWL.out]; omega)
        rw [HWL.out] at e
        rw [e, ← HW.out] at h
        exact h
      case measure => simp [intOf]; omega
    · obtain rfl : j = 16 := by omega
      have HB := Lib.hid hblk
      have HBL := Lib.hid bl
      clear hblk bl
      go_wp2_with (fail)
      exact HQ.out _ _ _ _ _ _ _ _ _ _ _ _ _ _ _ _ _ _ _ _ _ _ _ _ _ _ _ _ _ _ _ _ _ _ _ _ _ _ HB HBL
end Go.Proofs.YtbodiioemohenaaDoor

/- The contract of sha.turned: a word turned to the right. Conditions: the word fits uint32; at most 32 places. -/
namespace Go.Proofs.YtbodiioemohenaaDoor
open Go.RowKit

theorem cutN_eq (n k : Nat) : cutN k n = n / 2 ^ k := by
  induction k with
  | zero => simp [cutN]
  | succ k ih => rw [cutN, ih, Nat.div_div_eq_div_mul, Nat.pow_succ]
theorem rotN_eq (n k : Nat) (hk : k ≤ 32) : rotN k n = n / 2 ^ k + n % 2 ^ k * 2 ^ (32 - k) := by
  induction k with
  | zero => simp [rotN, Nat.mod_one]
  | succ k ih =>
    have e1 : (2 : Nat) ^ (32 - k) = 2 * 2 ^ (31 - k) := by rw [show 32 - k = (31 - k) + 1 by omega, Nat.pow_succ]; omega
    have e2 : (2 : Nat) ^ k * 2 ^ (31 - k) = 2147483648 := by rw [← Nat.pow_add, show k + (31 - k) = 31 by omega]
    have e3 := Nat.mod_pow_succ (x := n) (b := 2) (k := k)
    have e4 : n / 2 ^ (k + 1) = n / 2 ^ k / 2 := by rw [Nat.div_div_eq_div_mul, Nat.pow_succ]
    rw [rotN, ih (by omega), e3, e4, show 32 - (k + 1) = 31 - k by omega, e1, rot1]
    obtain ⟨a, ha⟩ : ∃ a, a = n / 2 ^ k := ⟨_, rfl⟩
    obtain ⟨p, hp⟩ : ∃ p, p = (2 : Nat) ^ (31 - k) := ⟨_, rfl⟩
    obtain ⟨r, hr⟩ : ∃ r, r = n % 2 ^ k := ⟨_, rfl⟩
    obtain ⟨b, hb⟩ : ∃ b, b = r * p := ⟨_, rfl⟩
    rw [← ha, ← hp, ← hr]
    rw [← hp] at e2
    have e5 : (r + 2 ^ k * (a % 2)) * p = b + 2147483648 * (a % 2) := by
      rw [Nat.add_mul, hb, Nat.mul_right_comm, e2]
    have e6 : r * (2 * p) = 2 * b := by rw [hb]; simp [Nat.mul_left_comm]
    rw [e5, e6]
    omega
theorem turned_bits {n k : Nat} (hn : n < 4294967296) (hk : k ≤ 32) : bits .or .u32 ((n : Int) / 2 ^ k) ((n : Int) * 2 ^ (32 - k) % 4294967296) = ((rotN k n : Nat) : Int) := by
  have e0 : (4294967296 : Nat) = 2 ^ k * 2 ^ (32 - k) := by rw [← Nat.pow_add, show k + (32 - k) = 32 by omega]
  have e1 : (n : Int) / 2 ^ k = ((n / 2 ^ k : Nat) : Int) := by simp
  have e2 : (n : Int) * 2 ^ (32 - k) % 4294967296 = ((n % 2 ^ k * 2 ^ (32 - k) : Nat) : Int) := by
    rw [← Nat.mul_mod_mul_right, ← e0]
    simp
  have h1 : n / 2 ^ k < 2 ^ (32 - k) := Nat.div_lt_of_lt_mul (by rw [← e0]; exact hn)
  have h2 : n % 2 ^ k * 2 ^ (32 - k) < 4294967296 := by
    rw [e0]
    exact Nat.mul_lt_mul_of_pos_right (Nat.mod_lt _ (Nat.two_pow_pos k)) (Nat.two_pow_pos _)
  rw [e1, e2, u32_or_nat _ _ (Nat.lt_of_le_of_lt (Nat.div_le_self _ _) hn) h2, Nat.or_comm, nat_join (32 - k) _ _ (Nat.mul_mod_left _ _) h1, rotN_eq n k hk, Nat.add_comm]
set_option maxHeartbeats 400000 in
theorem turned_any (n k : Nat) (w : World) (hn : n < 4294967296) (hk : k ≤ 32) :
    Calls Tryd.prog 94 #[.int .u32 n, .int .i64 k] w fun e w' => e = .returned (.int .u32 (rotN k n : Nat)) ∧ ∃ m, w' = w.drewN m := by
  have HN := Lib.hid hn
  have h1 : (n : Int) ≤ 4294967295 := by omega
  have h2 : (k : Int) ≤ 32 := by omega
  have h3 : IntKind.i64.wrap (32 - (k : Int)) = 32 - (k : Int) := IntWalk.i64_in _ (by omega)
  have h4 : (0 : Int) ≤ 32 - (k : Int) := by omega
  go_enter Tryd.func94, Tryd.ntmps94
  go_wp2_with (fail)
  go_quiet (fail)
  go_wp2_with (fail)
  go_ret
  exact ⟨ret_i (turned_bits HN.out hk), _, rfl⟩
/-- The same, at a place that is written out. -/
theorem turned_k (n k : Nat) (K : Int) (hK : K = (k : Int)) (w : World) (hn : n < 4294967296) (hk : k ≤ 32) : Calls Tryd.prog 94 #[.int .u32 n, .int .i64 K] w fun e w' => e = .returned (.int .u32 (rotN k n : Nat)) ∧ ∃ m, w' = w.drewN m := hK ▸ turned_any n k w hn hk
end Go.Proofs.YtbodiioemohenaaDoor

/- sha.spreadOut: the loop over the further words. No condition of its own. -/
namespace Go.Proofs.YtbodiioemohenaaDoor
open Go.RowKit

noncomputable def body_further : Code := (((Tryd.f93.body.map loopsOf).getD [])[1]?).getD .skip
def FurRel (ws : List Nat) (w : World) (S : Nat) (i : Value) (wr : World) : Prop :=
  ∃ k : Nat, i = .int .i64 (k : Int) ∧ 16 ≤ k ∧ k ≤ 64 ∧ Blk wr S 140 (wordsC (schedN (k - 16) ws)) ∧ Below S w wr
set_option maxRecDepth 100000 in
set_option maxHeartbeats 4000000 in
theorem further_loop (c0 c1 c2 c4 c5 c7 c8 c9 c10 c11 c12 c13 c14 c15 c16 c17 c18 c19 c20 c21 c22 c23 c24 c25 c26 c27 c28 c29 c30 c31 c32 c33 c34 c35 c36 c37 c38 c39 c40 c41 c42 c43 c44 c45 c46 c47 c48 c49 c50 c51 c52 c53 c54 c55 c56 c57 c58 c59 c60 c61 c62 c63 c64 c65 c66 c67 c68 c69 c70 c71 c72 c73 c74 c75 c76 c77 c78 c79 c80 c81 c82 c83 c84 c85 c86 c87 c88 c89 c90 : Value) (ws : List Nat) (HWS : Hid (ws.length = 16 ∧ ∀ x ∈ ws, x < 4294967296)) (w : World) (S : Nat) (h0 : Hid (Blk w S 140 (wordsC ws))) {Q : Exit → Act → World → Prop}
    (HQ : Hid (∀ (u7 u8 u9 u10 u47 u48 u49 u50 u51 u52 u53 u54 u55 u56 u57 u58 u59 u60 u61 u62 u63 u64 u65 u66 u67 u68 u69 u70 u71 u72 u73 u74 u75 u76 u77 u78 u79 u80 u81 u82 u83 u84 u85 u86 u87 u88 u89 : Value) (wx : World), Hid (Blk wx S 140 (wordsC (schedN 48 ws))) → Hid (Below S w wx) → Q (.exit 2) ⟨List.toArray (c0 :: c1 :: c2 :: (.pointer (some ⟨S, 0, none⟩)) :: c4 :: c5 :: (.int .i64 64) :: u7 :: u8 :: u9 :: u10 :: c11 :: c12 :: c13 :: c14 :: c15 :: c16 :: c17 :: c18 :: c19 :: c20 :: c21 :: c22 :: c23 :: c24 :: c25 :: c26 :: c27 :: c28 :: c29 :: c30 :: c31 :: c32 :: c33 :: c34 :: c35 :: c36 :: c37 :: c38 :: c39 :: c40 :: c41 :: c42 :: c43 :: c44 :: c45 :: c46 :: u47 :: u48 :: u49 :: u50 :: u51 :: u52 :: u53 :: u54 :: u55 :: u56 :: u57 :: u58 :: u59 :: u60 :: u61 :: u62 :: u63 :: u64 :: u65 :: u66 :: u67 :: u68 :: u69 :: u70 :: u71 :: u72 :: u73 :: u74 :: u75 :: u76 :: u77 :: u78 :: u79 :: u80 :: u81 :: u82 :: u83 :: u84 :: u85 :: u86 :: u87 :: u88 :: u89 :: c90 :: []), []⟩ wx)) :
    (Code.loop body_further).wp Tryd.prog Q ⟨List.toArray (c0 :: c1 :: c2 :: (.pointer (some ⟨S, 0, none⟩)) :: c4 :: c5 :: (.int .i64 16) :: c7 :: c8 :: c9 :: c10 :: c11 :: c12 :: c13 :: c14 :: c15 :: c16 :: c17 :: c18 :: c19 :: c20 :: c21 :: c22 :: c23 :: c24 :: c25 :: c26 :: c27 :: c28 :: c29 :: c30 :: c31 :: c32 :: c33 :: c34 :: c35 :: c36 :: c37 :: c38 :: c39 :: c40 :: c41 :: c42 :: c43 :: c44 :: c45 :: c46 :: c47 :: c48 :: c49 :: c50 :: c51 :: c52 :: c53 :: c54 :: c55 :: c56 :: c57 :: c58 :: c59 :: c60 :: c61 :: c62 :: c63 :: c64 :: c65 :: c66 :: c67 :: c68 :: c69 :: c70 :: c71 :: c72 :: c73 :: c74 :: c75 :: c76 :: c77 :: c78 :: c79 :: c80 :: c81 :: c82 :: c83 :: c84 :: c85 :: c86 :: c87 :: c88 :: c89 :: c90 :: []), []⟩ w := by
  unfold body_further
  conv => arg 2; arg 1; whnf
  go_loopw [6] (fun i wx => FurRel ws w S i wx) (fun i _ => 64 - (intOf i).toNat)
  case atStart => exact ⟨16, rfl, by omega, by omega, h0.out, Below.refl _ _⟩
  case round =>
    obtain ⟨k, rfl, hk1, hk2, hblk, bl⟩ := hrel
    by_cases hlt3 : k < 64
    · have hl3 : (schedN (k - 16) ws).length = k := by rw [schedN_length, HWS.out.1]; omega
      have hlt32 := schedN_lt HWS.out.2 (k - 16)
      obtain ⟨ds, hds⟩ : ∃ ds, ds = schedN (k - 16) ws := ⟨_, rfl⟩
      rw [← hds] at hl3 hlt32 hblk
      have HN : Hid (schedN (k + 1 - 16) ws = schedStep ds) := by
        show schedN (k + 1 - 16) ws = schedStep ds
        rw [show k + 1 - 16 = (k - 16) + 1 by omega, schedN, hds]
      have word : ∀ j, j < k → ∃ a : Nat, wr.cell? ⟨S, j, none⟩ = some (.int .u32 (a : Int)) ∧ (a : Int) ≤ 4294967295 ∧ ds.getD j 0 = a := fun j hj => by
        have hj' : j < ds.length := by omega
        refine ⟨ds[j], ?_, by have := hlt32 _ (List.getElem_mem hj'); omega, by simp [hj']⟩
        rw [hblk.cell j, wordsC_get hj']
        simp [hj']
      obtain ⟨a15, c15, b15, e15⟩ := word (k - 15) (by omega)
      obtain ⟨a2, c2, b2, e2⟩ := word (k - 2) (by omega)
      obtain ⟨a16, c16, b16, e16⟩ := word (k - 16) (by omega)
      obtain ⟨a7, c7, b7, e7⟩ := word (k - 7) (by omega)
      have HST : Hid (schedStep ds = ds ++ [(a16 + sg0 a15 + a7 + sg1 a2) % 4294967296]) := by
        show schedStep ds = _
        unfold schedStep
        rw [hl3, e15, e2, e16, e7]
      have cS : wr.cell? ⟨S, k, none⟩ = some (.int .u32 0) := by
        rw [hblk.cell k]
        unfold wordsC
        rw [List.getElem?_append_right (by simp [hl3]), List.length_map, hl3, Nat.sub_self, List.getElem?_replicate, if_pos (by omega)]
      have fS : wr.frozen? ⟨S, k, none⟩ = false := hblk.free k
      have HL3 := Lib.hid hl3
      have HB := Lib.hid hblk
      have HBL := Lib.hid bl
      have i15 : ((k : Int) - 15).toNat = k - 15 := by omega
      have i2 : ((k : Int) - 2).toNat = k - 2 := by omega
      have i16 : ((k : Int) - 16).toNat = k - 16 := by omega
      have i7 : ((k : Int) - 7).toNat = k - 7 := by omega
      have h1 : (16 : Int) ≤ k := by omega
      have h2 : (k : Int) < 64 := by omega
      have l15 : (k : Int) - 15 < 64 := by omega
      have l2 : (k : Int) - 2 < 64 := by omega
      have l16 : (k : Int) - 16 < 64 := by omega
      have l7 : (k : Int) - 7 < 64 := by omega
      have n15 : (15 : Int) ≤ k := by omega
      have n2 : (2 : Int) ≤ k := by omega
      have n7 : (7 : Int) ≤ k := by omega
      have T7 := Lib.hid fun w => turned_k a15 7 7 rfl w (by omega) (by omega)
      have T18 := Lib.hid fun w => turned_k a15 18 18 rfl w (by omega) (by omega)
      have T17 := Lib.hid fun w => turned_k a2 17 17 rfl w (by omega) (by omega)
      have T19 := Lib.hid fun w => turned_k a2 19 19 rfl w (by omega) (by omega)
      have E1 : bits .xor .u32 (bits .xor .u32 ((rotN 7 a15 : Nat) : Int) ((rotN 18 a15 : Nat) : Int)) ((a15 : Int) / 8) = ((sg0 a15 : Nat) : Int) := by rw [← sg0_bits (by omega), cutN_eq]; rfl
      have E2 : bits .xor .u32 (bits .xor .u32 ((rotN 17 a2 : Nat) : Int) ((rotN 19 a2 : Nat) : Int)) ((a2 : Int) / 1024) = ((sg1 a2 : Nat) : Int) := by rw [← sg1_bits (by omega), cutN_eq]; rfl
      clear hl3 hlt32 e15 e2 e16 e7 hds word hblk bl
      have w15 : IntKind.i64.wrap ((k : Int) - 15) = (k : Int) - 15 := IntWalk.i64_in _ (by omega)
      have w2 : IntKind.i64.wrap ((k : Int) - 2) = (k : Int) - 2 := IntWalk.i64_in _ (by clear w15; omega)
      have w16 : IntKind.i64.wrap ((k : Int) - 16) = (k : Int) - 16 := IntWalk.i64_in _ (by clear w15 w2; omega)
      have w7 : IntKind.i64.wrap ((k : Int) - 7) = (k : Int) - 7 := IntWalk.i64_in _ (by clear w15 w2 w16; omega)
      go_wp2_with (fail)
      go_quiet (fail)
      go_wp2_with (first
        | (go_at_call 94; with_reducible refine (T7.out _).mono ?_; rintro _ _ ⟨rfl, m1, rfl⟩)
        | (go_at_call 94; with_reducible refine (T18.out _).mono ?_; rintro _ _ ⟨rfl, m2, rfl⟩)
        | (go_at_call 94; with_reducible refine (T17.out _).mono ?_; rintro _ _ ⟨rfl, m3, rfl⟩)
        | (go_at_call 94; with_reducible refine (T19.out _).mono ?_; rintro _ _ ⟨rfl, m4, rfl⟩))
      obtain ⟨wa, hwa⟩ : ∃ W : World, W = wr.drewN (nq + m1 + m2 + m3 + m4) := ⟨_, rfl⟩
      have c16a : wa.cell? ⟨S, k - 16, none⟩ = some (.int .u32 (a16 : Int)) := hwa ▸ c16
      have c7a : wa.cell? ⟨S, k - 7, none⟩ = some (.int .u32 (a7 : Int)) := hwa ▸ c7
      have cSa : wa.cell? ⟨S, k, none⟩ = some (.int .u32 0) := hwa ▸ cS
      have fSa : wa.frozen? ⟨S, k, none⟩ = false := hwa ▸ fS
      have HBa : Hid (Blk wa S 140 (wordsC ds)) := Lib.hid (hwa ▸ HB.out.drewN _)
      have HLa : Hid (Below S w wa) := Lib.hid (hwa ▸ below_drewN HBL.out _)
      rw [← hwa]
      clear hwa c15 c2 c16 c7 cS fS HB HBL
      go_still_tail 15, (by kernel_rfl)
      change wpList _ _ _ _ _ wa.drew
      go_wp2_with (fail)
      go_roundw
      case rel =>
        clear w15 w2 w16 w7
        have e1 : ((a16 : Int) + (sg0 a15 : Nat) + (a7 : Int) + (sg1 a2 : Nat)) % 4294967296 = (((a16 + sg0 a15 + a7 + sg1 a2) % 4294967296 : Nat) : Int) := by omega
        rw [e1]
        refine ⟨k + 1, by go_num, by omega, by omega, ?_, (HLa.out.setCell (p := ⟨S, k, none⟩) (Nat.le_refl _) _).drew⟩
        have h := (HBa.out.set k (wv ((a16 + sg0 a15 + a7 + sg1 a2) % 4294967296))).drew
        have e := wordsC_set (ds := ds) (x := (a16 + sg0 a15 + a7 + sg1 a2) % 4294967296) (by rw [HL3.out]; omega)
        rw [HL3.out] at e
        rw [e, ← HST.out, ← HN.out] at h
        exact h
      case measure => simp [intOf]; omega
    · obtain rfl : k = 64 := by omega
      have HB := Lib.hid hblk
      have HBL := Lib.hid bl
      clear hblk bl
      go_wp2_with (fail)
      exact HQ.out _ _ _ _ _ _ _ _ _ _ _ _ _ _ _ _ _ _ _ _ _ _ _ _ _ _ _ _ _ _ _ _ _ _ _ _ _ _ _ _ _ _ _ _ _ _ _ _ HB HBL
end Go.Proofs.YtbodiioemohenaaDoor

/- The contract of sha.spreadOut: a word for each round of a block. Conditions: a block of 64 bytes. -/
namespace Go.Proofs.YtbodiioemohenaaDoor
open Go.RowKit

/-- The words of the rounds. -/
def spreadN (bs : List UInt8) : List Nat := schedN 48 (wordsAt bs 0 16)
theorem spreadN_length (bs : List UInt8) : (spreadN bs).length = 64 := by unfold spreadN; rw [schedN_length, wordsAt_length]
theorem spreadN_lt (bs : List UInt8) : ∀ x ∈ spreadN bs, x < 4294967296 := schedN_lt (wordsAt_lt _ _ _) 48
set_option maxRecDepth 100000 in
set_option maxHeartbeats 2000000 in
theorem spread_any (b : Nat) (bs : List UInt8) (w : World) (hb : Blk w b 129 (bs.map bv)) (hl : bs.length = 64) :
    Calls Tryd.prog 93 #[.pointer (some ⟨b, 0, none⟩)] w fun e w' => e = .returned (wordsV (spreadN bs)) ∧ Below w.heap.size w w' := by
  have HB0 : Hid (Blk ((w.alloc (.cells (List.replicate 64 (Value.int .u32 0)).toArray 140)).alloc (.cells (List.replicate 64 (Value.int .u32 0)).toArray 140)) b 129 (bs.map bv)) := Lib.hid ((hb.alloc _).alloc _)
  have HS0 : Hid (Blk ((w.alloc (.cells (List.replicate 64 (Value.int .u32 0)).toArray 140)).alloc (.cells (List.replicate 64 (Value.int .u32 0)).toArray 140)) (w.heap.size + 1) 140 (wordsC [])) := by
    have h := Blk.made (w.alloc (.cells (List.replicate 64 (Value.int .u32 0)).toArray 140)) 140 (List.replicate 64 (Value.int .u32 0))
    simp only [World.size_alloc] at h
    exact h
  have hlt : b < w.heap.size + 1 := Nat.lt_succ_of_lt hb.lt
  have HL := Lib.hid hl
  have HLN : Hid (((spreadN bs).map wv).length = 64) := by show ((spreadN bs).map wv).length = 64; rw [List.length_map, spreadN_length]
  have HI : Hid ((Tryd.prog.info? 140).map (·.size) = some 64) := by show _ = _; kernel_rfl
  clear hb hl
  go_enter Tryd.func93, Tryd.ntmps93
  go_wp2_with (fail)
  refine first_loop _ _ _ _ _ _ _ _ _ _ _ _ _ _ _ _ _ _ _ _ _ _ _ _ _ _ _ _ _ _ _ _ _ _ _ _ _ _ _ _ _ _ _ _ _ _ _ _ _ _ _ _ _ _ _ _ _ _ _ _ _ _ _ _ _ _ _ _ _ _ _ _ _ _ _ _ _ _ _ _ _ _ _ _ _ _ _ _ bs HL.out _ b (w.heap.size + 1) HB0 hlt HS0 (Lib.hid ?_)
  intro u4 u5 u12 u13 u14 u15 u16 u17 u18 u19 u20 u21 u22 u23 u24 u25 u26 u27 u28 u29 u30 u31 u32 u33 u34 u35 u36 u37 u38 u39 u40 u41 u42 u43 u44 u45 u46 w1 hb1 hl1
  go_wp2_with (fail)
  refine further_loop _ _ _ _ _ _ _ _ _ _ _ _ _ _ _ _ _ _ _ _ _ _ _ _ _ _ _ _ _ _ _ _ _ _ _ _ _ _ _ _ _ _ _ _ _ _ _ _ _ _ _ _ _ _ _ _ _ _ _ _ _ _ _ _ _ _ _ _ _ _ _ _ _ _ _ _ _ _ _ _ _ _ _ _ _ _ _ _ _ (wordsAt bs 0 16) (Lib.hid ⟨wordsAt_length _ _ _, wordsAt_lt _ _ _⟩) w1 (w.heap.size + 1) hb1 (Lib.hid ?_)
  intro u7 u8 u9 u10 u47 u48 u49 u50 u51 u52 u53 u54 u55 u56 u57 u58 u59 u60 u61 u62 u63 u64 u65 u66 u67 u68 u69 u70 u71 u72 u73 u74 u75 u76 u77 u78 u79 u80 u81 u82 u83 u84 u85 u86 u87 u88 u89 w2 hb2 hl2
  have D := Lib.hid (hl1.out.trans hl2.out)
  have hS := hb2.out
  have e : wordsC (schedN 48 (wordsAt bs 0 16)) = (spreadN bs).map wv := by
    unfold wordsC
    rw [schedN_length, wordsAt_length]
    simp [spreadN]
  rw [e] at hS
  have HS := Lib.hid hS
  have HR : Hid (Blk w2 w.heap.size 140 (List.replicate 64 (Value.int .u32 0))) := ((Blk.made w 140 (List.replicate 64 (Value.int .u32 0))).alloc _).below D.out (by omega)
  clear hS e hb1 hb2 hl1 hl2 HB0 HS0
  go_wp2_with (first
    | (refine wpList_load_blk rfl 140 _ rfl (w.heap.size + 1) rfl 140 ((spreadN bs).map wv) _ HS.out Tryd.underlying140 rfl (by rw [HLN.out]; exact HI.out) ?_)
    | (refine wpList_store_blk rfl 140 _ _ rfl w.heap.size 140 _ HR.out ((spreadN bs).map wv) rfl rfl (by rw [HLN.out]; rfl) (by rw [HLN.out]; exact HI.out) (wv_one _) ?_; intro w9 hb9 hs9))
  refine bodyPost_ret (v := wordsV (spreadN bs)) ?_ rfl ⟨rfl, ?_⟩
  · exact results_blk (ty := 140) Tryd.results93 _ w9 w.heap.size 140 ((spreadN bs).map wv) _ rfl hb9 Tryd.underlying140 rfl (by rw [HLN.out]; exact HI.out)
  · exact (((Below.refl _ _).alloc (Nat.le_refl _) _).alloc (by simp) _).trans ((D.out.mono (by omega)).trans hs9.below)
end Go.Proofs.YtbodiioemohenaaDoor
