/- Part 5 of the words that the laws share: W32, ShaMath, Short. No condition of its own: each theorem says its own. -/
import Derived.Test.YtbodiioemohenaaDoorPart4
import Derived.Test.YtbodiioemohenaaDoorPart1
import Derived.Test.YtbodiioemohenaaDoorPart14
import Derived.Laws.BitsAllLaws

/- Words of 32 bits: slices and arrays of them. No condition of its own. -/
namespace Go.Proofs.YtbodiioemohenaaDoor
open Go.RowKit

theorem info_w32 : (Tryd.prog.info? 121).map (fun i => (i.zero, i.size, i.bytes)) = some (some (.int .u32 0), 1, 4) := by kernel_rfl
def wv (n : Nat) : Value := .int .u32 (n : Int)
/-- The value v is a slice of uint32 at the head of a block, that reads as the words ds. -/
def Rw (w : World) (v : Value) (ds : List Nat) : Prop :=
  ∃ g c, v = .slice (some ⟨g, 0, none⟩) ds.length c ∧ ds.length ≤ c ∧ c ≤ maxLen ∧ g < w.heap.size ∧ ∀ i (h : i < ds.length), w.cell? ⟨g, i, none⟩ = some (.int .u32 ((ds[i] : Nat) : Int))
theorem Rw.below {w w' : World} {v : Value} {ds : List Nat} (h : Rw w v ds) (hb : Below w.heap.size w w') : Rw w' v ds := by
  obtain ⟨g, c, h1, h2, h3, h4, h5⟩ := h
  exact ⟨g, c, h1, h2, h3, Nat.lt_of_lt_of_le h4 hb.size, fun i hi => (hb.cell (p := ⟨g, i, none⟩) h4).trans (h5 i hi)⟩
theorem Rw.drewN {w : World} {v : Value} {ds : List Nat} (h : Rw w v ds) (n : Nat) : Rw (w.drewN n) v ds := h
theorem rw_lit {w : World} {t : TypeId} {ds : List Nat} (hl : ds.length ≤ 1000) : Rw (w.alloc (.cells (ds.map wv).toArray t)) (.slice (some ⟨w.heap.size, 0, none⟩) ds.length ds.length) ds := by
  refine ⟨w.heap.size, ds.length, rfl, by omega, by unfold maxLen; omega, by simp, fun i hi => ?_⟩
  rw [World.cell?_alloc_new]
  simp [hi, wv]
theorem rw_of_own {w : World} {B n : Nat} {v : Value} {ds : List Nat} (h : w.ownsRow B 121 1 v n (ds.map wv)) (hn : 0 < n) : Rw w v ds := by
  obtain ⟨g, c, rfl, h1, h2⟩ := own_form h hn
  have hl : ds.length = n := by simpa using h.1
  refine ⟨g, c, by rw [hl], by omega, h2, (h.lt g rfl).2, fun i hi => ?_⟩
  rw [h.cellAt i (by omega), List.getElem?_map, List.getElem?_eq_getElem hi]
  rfl
theorem xor_lt32 {a b : Nat} (ha : a < 4294967296) (hb : b < 4294967296) : a ^^^ b < 4294967296 := Nat.xor_lt_two_pow (n := 32) ha hb
theorem and_lt32 {a b : Nat} (ha : a < 4294967296) : a &&& b < 4294967296 := Nat.lt_of_le_of_lt Nat.and_le_left ha
/-- The exclusive or of two bytes. -/
theorem xor_u8 (x c : UInt8) : Value.int .u8 (bits .xor .u8 (x.toNat : Int) (c.toNat : Int)) = bv (x ^^^ c) := by
  unfold bv
  rw [u8_xor_nat _ _ x.toNat_lt c.toNat_lt, UInt8.toNat_xor]
/-- The value of a row of words that is an array. -/
def wordsV (ds : List Nat) : Value := .agg (ds.map wv).toArray
theorem wv_one (ds : List Nat) : ∀ u ∈ ds.map wv, u.oneCell' = true := by
  intro u hu
  obtain ⟨b, _, rfl⟩ := List.mem_map.1 hu
  rfl
end Go.Proofs.YtbodiioemohenaaDoor

/- Plain arithmetic of the published fingerprint SHA-256, with no program in sight. No condition of its own. -/
namespace Go.Proofs.YtbodiioemohenaaDoor
open Go.RowKit

def kT : List Nat := [1116352408, 1899447441, 3049323471, 3921009573, 961987163, 1508970993, 2453635748, 2870763221, 3624381080, 310598401, 607225278, 1426881987, 1925078388, 2162078206, 2614888103, 3248222580, 3835390401, 4022224774, 264347078, 604807628, 770255983, 1249150122, 1555081692, 1996064986, 2554220882, 2821834349, 2952996808, 3210313671, 3336571891, 3584528711, 113926993, 338241895, 666307205, 773529912, 1294757372, 1396182291, 1695183700, 1986661051, 2177026350, 2456956037, 2730485921, 2820302411, 3259730800, 3345764771, 3516065817, 3600352804, 4094571909, 275423344, 430227734, 506948616, 659060556, 883997877, 958139571, 1322822218, 1537002063, 1747873779, 1955562222, 2024104815, 2227730452, 2361852424, 2428436474, 2756734187, 3204031479, 3329325298]
def h0T : List Nat := [1779033703, 3144134277, 1013904242, 2773480762, 1359893119, 2600822924, 528734635, 1541459225]
def sg0 (x : Nat) : Nat := rotN 7 x ^^^ rotN 18 x ^^^ cutN 3 x
def sg1 (x : Nat) : Nat := rotN 17 x ^^^ rotN 19 x ^^^ cutN 10 x
def Sg0 (x : Nat) : Nat := rotN 2 x ^^^ rotN 13 x ^^^ rotN 22 x
def Sg1 (x : Nat) : Nat := rotN 6 x ^^^ rotN 11 x ^^^ rotN 25 x
def chN (e f g : Nat) : Nat := (e &&& f) ^^^ ((4294967295 - e) &&& g)
def majN (a b c : Nat) : Nat := (a &&& b) ^^^ (a &&& c) ^^^ (b &&& c)
/-- One more word of a block's sixty-four. -/
def schedStep (ws : List Nat) : List Nat := ws ++ [(ws.getD (ws.length - 16) 0 + sg0 (ws.getD (ws.length - 15) 0) + ws.getD (ws.length - 7) 0 + sg1 (ws.getD (ws.length - 2) 0)) % 4294967296]
def schedN : Nat → List Nat → List Nat
  | 0, ws => ws
  | k + 1, ws => schedStep (schedN k ws)
/-- The eight words. -/
structure St where
  a : Nat
  b : Nat
  c : Nat
  d : Nat
  e : Nat
  f : Nat
  g : Nat
  h : Nat
def St.t (s : St) (k w : Nat) : Nat := (s.h + Sg1 s.e + chN s.e s.f s.g + k + w) % 4294967296
def St.u (s : St) : Nat := (Sg0 s.a + majN s.a s.b s.c) % 4294967296
def rnd (s : St) (k w : Nat) : St := ⟨(s.t k w + s.u) % 4294967296, s.a, s.b, s.c, (s.d + s.t k w) % 4294967296, s.e, s.f, s.g⟩
def rnds (s : St) (ws : List Nat) : Nat → St
  | 0 => s
  | i + 1 => rnd (rnds s ws i) (kT.getD i 0) (ws.getD i 0)
def St.add (s t : St) : St := ⟨(s.a + t.a) % 4294967296, (s.b + t.b) % 4294967296, (s.c + t.c) % 4294967296, (s.d + t.d) % 4294967296, (s.e + t.e) % 4294967296, (s.f + t.f) % 4294967296, (s.g + t.g) % 4294967296, (s.h + t.h) % 4294967296⟩
def St.list (s : St) : List Nat := [s.a, s.b, s.c, s.d, s.e, s.f, s.g, s.h]
def St.first : St := ⟨1779033703, 3144134277, 1013904242, 2773480762, 1359893119, 2600822924, 528734635, 1541459225⟩
/-- The first i words of the block that begins at a place. -/
def wordsAt (m : List UInt8) (at_ : Nat) : Nat → List Nat
  | 0 => []
  | i + 1 => wordsAt m at_ i ++ [numBE ((m.drop (at_ + 4 * i)).take 4)]
def block (s : St) (m : List UInt8) (at_ : Nat) : St := s.add (rnds s (schedN 48 (wordsAt m at_ 16)) 64)
def blocks (m : List UInt8) : Nat → St
  | 0 => St.first
  | j + 1 => block (blocks m j) m (64 * j)
def padN (n : Nat) : Nat := (119 - n % 64) % 64
def padB (xs : List UInt8) : List UInt8 := xs ++ [128] ++ List.replicate (padN xs.length) 0 ++ beB 8 (xs.length * 8)
def St.bytes (s : St) : List UInt8 := beB 4 s.a ++ beB 4 s.b ++ beB 4 s.c ++ beB 4 s.d ++ beB 4 s.e ++ beB 4 s.f ++ beB 4 s.g ++ beB 4 s.h
/-- The fingerprint. -/
def shaB (xs : List UInt8) : List UInt8 := (blocks (padB xs) ((padB xs).length / 64)).bytes

theorem padB_length (xs : List UInt8) : (padB xs).length = xs.length + 9 + padN xs.length := by
  simp [padB, beB_length]
  omega
theorem padB_mod (xs : List UInt8) : (padB xs).length % 64 = 0 := by
  rw [padB_length]
  unfold padN
  omega
theorem sha_abc : shaB [97, 98, 99] = [186, 120, 22, 191, 143, 1, 207, 234, 65, 65, 64, 222, 93, 174, 34, 35, 176, 3, 97, 163, 150, 23, 122, 156, 180, 16, 255, 97, 242, 0, 21, 173] := by decide +kernel

theorem sg0_lt {x : Nat} (h : x < 4294967296) : sg0 x < 4294967296 := xor_lt32 (xor_lt32 (rotN_lt h _) (rotN_lt h _)) (cutN_lt h _)
theorem sg1_lt {x : Nat} (h : x < 4294967296) : sg1 x < 4294967296 := xor_lt32 (xor_lt32 (rotN_lt h _) (rotN_lt h _)) (cutN_lt h _)
theorem Sg0_lt {x : Nat} (h : x < 4294967296) : Sg0 x < 4294967296 := xor_lt32 (xor_lt32 (rotN_lt h _) (rotN_lt h _)) (rotN_lt h _)
theorem Sg1_lt {x : Nat} (h : x < 4294967296) : Sg1 x < 4294967296 := xor_lt32 (xor_lt32 (rotN_lt h _) (rotN_lt h _)) (rotN_lt h _)
theorem chN_lt {e f g : Nat} (he : e < 4294967296) : chN e f g < 4294967296 := xor_lt32 (and_lt32 he) (and_lt32 (by omega))
theorem majN_lt {a b c : Nat} (ha : a < 4294967296) (hb : b < 4294967296) : majN a b c < 4294967296 := xor_lt32 (xor_lt32 (and_lt32 ha) (and_lt32 ha)) (and_lt32 hb)
def St.ok (s : St) : Prop := s.a < 4294967296 ∧ s.b < 4294967296 ∧ s.c < 4294967296 ∧ s.d < 4294967296 ∧ s.e < 4294967296 ∧ s.f < 4294967296 ∧ s.g < 4294967296 ∧ s.h < 4294967296
theorem St.first_ok : St.first.ok := by simp [St.ok, St.first]
theorem rnd_ok {s : St} (h : s.ok) (k w : Nat) : (rnd s k w).ok := by
  obtain ⟨h1, h2, h3, h4, h5, h6, h7, h8⟩ := h
  exact ⟨Nat.mod_lt _ (by omega), h1, h2, h3, Nat.mod_lt _ (by omega), h5, h6, h7⟩
theorem rnds_ok {s : St} (h : s.ok) (ws : List Nat) (i : Nat) : (rnds s ws i).ok := by
  induction i with
  | zero => exact h
  | succ i ih => exact rnd_ok ih _ _
theorem add_ok (s t : St) : (s.add t).ok := ⟨Nat.mod_lt _ (by omega), Nat.mod_lt _ (by omega), Nat.mod_lt _ (by omega), Nat.mod_lt _ (by omega), Nat.mod_lt _ (by omega), Nat.mod_lt _ (by omega), Nat.mod_lt _ (by omega), Nat.mod_lt _ (by omega)⟩
theorem blocks_ok (m : List UInt8) (j : Nat) : (blocks m j).ok := by
  cases j with
  | zero => exact St.first_ok
  | succ j => exact add_ok _ _
theorem wordsAt_length (m : List UInt8) (p i : Nat) : (wordsAt m p i).length = i := by
  induction i with
  | zero => rfl
  | succ i ih => simp [wordsAt, ih]
theorem wordsAt_lt (m : List UInt8) (p i : Nat) : ∀ x ∈ wordsAt m p i, x < 4294967296 := by
  induction i with
  | zero => intro x hx; simp [wordsAt] at hx
  | succ i ih =>
    intro x hx
    rw [wordsAt, List.mem_append] at hx
    rcases hx with hx | hx
    · exact ih x hx
    · have h1 := numBE_lt ((m.drop (p + 4 * i)).take 4)
      have h2 : (256 : Nat) ^ ((m.drop (p + 4 * i)).take 4).length ≤ 256 ^ 4 := Nat.pow_le_pow_right (by omega) (by simp; omega)
      have h3 : x = numBE ((m.drop (p + 4 * i)).take 4) := by simpa using hx
      omega
theorem schedN_length (ws : List Nat) (k : Nat) : (schedN k ws).length = ws.length + k := by
  induction k with
  | zero => rfl
  | succ k ih => simp [schedN, schedStep, ih]; omega
theorem schedN_lt {ws : List Nat} (h : ∀ x ∈ ws, x < 4294967296) (k : Nat) : ∀ x ∈ schedN k ws, x < 4294967296 := by
  induction k with
  | zero => exact h
  | succ k ih =>
    intro x hx
    rw [schedN, schedStep, List.mem_append] at hx
    rcases hx with hx | hx
    · exact ih x hx
    · rw [List.mem_singleton.1 hx]
      exact Nat.mod_lt _ (by omega)
end Go.Proofs.YtbodiioemohenaaDoor

/- The contract of sha.Short: the number whose form a fingerprint's first eight bytes are. Condition: 32 bytes. -/
namespace Go.Proofs.YtbodiioemohenaaDoor
open Go.RowKit

set_option maxRecDepth 100000 in
set_option maxHeartbeats 400000 in
theorem short_any (xs : List UInt8) (w : World) (hl : xs.length = 32) :
    Calls Tryd.prog 61 #[arrV xs] w fun e w' => e = .returned (.int .u64 (numB (xs.take 8) : Nat)) ∧ Below w.heap.size w w' := by
  have HB := Lib.hid (Blk.made w 104 (xs.map bv))
  have HR := Lib.hid (HB.out.rd 8 32 (by omega) (by omega) (by unfold maxLen; omega))
  have HL := Lib.hid hl
  clear hl
  unfold arrV
  go_enter Tryd.func61, Tryd.ntmps61
  go_wp2_with (fail)
  refine (get_yes _ (xs.take 8) 8 _ HR.out (by omega) (by omega) (by rw [List.length_take, HL.out]; omega)).mono ?_
  rintro e w1 ⟨rfl, rfl⟩
  rw [List.take_take]
  go_wp2_with (fail)
  go_ret
  exact ⟨rfl, (Below.refl _ _).alloc (Nat.le_refl _) _⟩
end Go.Proofs.YtbodiioemohenaaDoor
