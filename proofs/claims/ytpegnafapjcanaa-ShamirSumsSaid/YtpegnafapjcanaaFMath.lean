/- The field of 256 elements, reckoned: its product goes through sums, hangs neither on the order nor on what is put together first. No program in sight, no condition. -/
import Derived.Test.YtpegnafapjcanaaMem
import Derived.KernelRfl
namespace Go.Proofs.Ytpegnafapjcanaa

/-- The product as the reference reckons it. -/
def gprod (a b : Nat) : Nat := [0, 1, 2, 3, 4, 5, 6, 7].foldl (fun p i => if b / 2 ^ i % 2 = 1 then p ^^^ (a * 2 ^ i) else p) 0
def gred (p : Nat) : Nat := [14, 13, 12, 11, 10, 9, 8].foldl (fun p i => if p / 2 ^ i % 2 = 1 then p ^^^ (283 * 2 ^ (i - 8)) else p) p
def gmul (a b : Nat) : Nat := gred (gprod a b)
def pick (c : Bool) (x : Nat) : Nat := if c then x else 0
theorem pick_bit (p b i x : Nat) : (if b / 2 ^ i % 2 = 1 then p ^^^ x else p) = p ^^^ pick (b.testBit i) x := by
  unfold pick
  rw [Nat.testBit_eq_decide_div_mod_eq]
  by_cases h : b / 2 ^ i % 2 = 1 <;> simp [h]
theorem pick_xor (c d : Bool) (x : Nat) : pick (c ^^ d) x = pick c x ^^^ pick d x := by cases c <;> cases d <;> simp [pick]
theorem pick_sum (c : Bool) (x y : Nat) : pick c (x ^^^ y) = pick c x ^^^ pick c y := by cases c <;> simp [pick]
theorem shift_xor (a b i : Nat) : (a ^^^ b) * 2 ^ i = a * 2 ^ i ^^^ b * 2 ^ i := by
  rw [← Nat.shiftLeft_eq, ← Nat.shiftLeft_eq, ← Nat.shiftLeft_eq, Nat.shiftLeft_xor_distrib]
theorem gprod_right (a b c : Nat) : gprod a (b ^^^ c) = gprod a b ^^^ gprod a c := by
  unfold gprod
  simp only [List.foldl_cons, List.foldl_nil, pick_bit, Nat.testBit_xor, pick_xor, Nat.zero_xor]
  ac_rfl
theorem gprod_left (a b c : Nat) : gprod (a ^^^ b) c = gprod a c ^^^ gprod b c := by
  unfold gprod
  simp only [List.foldl_cons, List.foldl_nil, pick_bit, shift_xor, pick_sum, Nat.zero_xor]
  ac_rfl
def gstep (i p : Nat) : Nat := p ^^^ pick (p.testBit i) (283 * 2 ^ (i - 8))
theorem gstep_xor (i p q : Nat) : gstep i (p ^^^ q) = gstep i p ^^^ gstep i q := by
  unfold gstep
  rw [Nat.testBit_xor, pick_xor]
  ac_rfl
theorem gred_eq (p : Nat) : gred p = gstep 8 (gstep 9 (gstep 10 (gstep 11 (gstep 12 (gstep 13 (gstep 14 p)))))) := by
  unfold gred
  simp only [List.foldl_cons, List.foldl_nil, pick_bit]
  rfl
theorem gred_xor (p q : Nat) : gred (p ^^^ q) = gred p ^^^ gred q := by
  rw [gred_eq, gred_eq, gred_eq]
  simp only [gstep_xor]
theorem gmul_right (a b c : Nat) : gmul a (b ^^^ c) = gmul a b ^^^ gmul a c := by
  unfold gmul
  rw [gprod_right, gred_xor]
theorem gmul_left (a b c : Nat) : gmul (a ^^^ b) c = gmul a c ^^^ gmul b c := by
  unfold gmul
  rw [gprod_left, gred_xor]
theorem gmul_zero (a : Nat) : gmul a 0 = 0 := by
  have h := gmul_right a 0 0
  rw [Nat.xor_self, Nat.xor_self] at h
  exact h
theorem zero_gmul (a : Nat) : gmul 0 a = 0 := by
  have h := gmul_left 0 0 a
  rw [Nat.xor_self, Nat.xor_self] at h
  exact h
theorem bits8 : ((List.range 256).all fun a => a == (pick (a.testBit 0) 1 ^^^ (pick (a.testBit 1) 2 ^^^ (pick (a.testBit 2) 4 ^^^ (pick (a.testBit 3) 8 ^^^ (pick (a.testBit 4) 16 ^^^ (pick (a.testBit 5) 32 ^^^ (pick (a.testBit 6) 64 ^^^ pick (a.testBit 7) 128)))))))) = true := by kernel_rfl
/-- What goes through sums, and is 0 at each power of 2, is 0. -/
theorem lin0 (g : Nat → Nat) (hx : ∀ x y, g (x ^^^ y) = g x ^^^ g y) (hb : ∀ x ∈ [1, 2, 4, 8, 16, 32, 64, 128], g x = 0) {a : Nat} (ha : a < 256) : g a = 0 := by
  have h0 : g 0 = 0 := by
    have h := hx 0 0
    rw [Nat.xor_self, Nat.xor_self] at h
    exact h
  have hp : ∀ (c : Bool) x, x ∈ [1, 2, 4, 8, 16, 32, 64, 128] → g (pick c x) = 0 := fun c x hm => by
    cases c
    · exact h0
    · exact hb x hm
  have h := List.all_eq_true.1 bits8 a (List.mem_range.2 ha)
  rw [beq_iff_eq] at h
  rw [h]
  simp only [hx]
  rw [hp _ 1 (by simp), hp _ 2 (by simp), hp _ 4 (by simp), hp _ 8 (by simp), hp _ 16 (by simp), hp _ 32 (by simp), hp _ 64 (by simp), hp _ 128 (by simp)]
  rfl
theorem xor_mix (a b c d : Nat) : (a ^^^ b) ^^^ (c ^^^ d) = (a ^^^ c) ^^^ (b ^^^ d) := by ac_rfl
theorem of_xor {a b : Nat} (h : a ^^^ b = 0) : a = b := by
  have h2 : (a ^^^ b) ^^^ b = 0 ^^^ b := by rw [h]
  rw [Nat.xor_assoc, Nat.xor_self, Nat.xor_zero, Nat.zero_xor] at h2
  exact h2
def base8 : List Nat := [1, 2, 4, 8, 16, 32, 64, 128]
theorem comm8 : (base8.all fun a => base8.all fun b => (gmul a b ^^^ gmul b a) == 0) = true := by kernel_rfl
theorem assoc8 : (base8.all fun a => base8.all fun b => base8.all fun c => (gmul (gmul a b) c ^^^ gmul a (gmul b c)) == 0) = true := by kernel_rfl
theorem gmul_comm {a b : Nat} (ha : a < 256) (hb : b < 256) : gmul a b = gmul b a := by
  refine of_xor (lin0 (fun a => gmul a b ^^^ gmul b a) (fun x y => by simp only [gmul_left, gmul_right]; exact xor_mix ..) (fun x hx => ?_) ha)
  refine lin0 (fun b => gmul x b ^^^ gmul b x) (fun x y => by simp only [gmul_left, gmul_right]; exact xor_mix ..) (fun y hy => ?_) hb
  exact beq_iff_eq.1 (List.all_eq_true.1 (List.all_eq_true.1 comm8 x hx) y hy)
theorem gmul_assoc {a b c : Nat} (ha : a < 256) (hb : b < 256) (hc : c < 256) : gmul (gmul a b) c = gmul a (gmul b c) := by
  refine of_xor (lin0 (fun a => gmul (gmul a b) c ^^^ gmul a (gmul b c)) (fun x y => by simp only [gmul_left]; exact xor_mix ..) (fun x hx => ?_) ha)
  refine lin0 (fun b => gmul (gmul x b) c ^^^ gmul x (gmul b c)) (fun u v => by simp only [gmul_left, gmul_right]; exact xor_mix ..) (fun y hy => ?_) hb
  refine lin0 (fun c => gmul (gmul x y) c ^^^ gmul x (gmul y c)) (fun u v => by simp only [gmul_right]; exact xor_mix ..) (fun z hz => ?_) hc
  exact beq_iff_eq.1 (List.all_eq_true.1 (List.all_eq_true.1 (List.all_eq_true.1 assoc8 x hx) y hy) z hz)
end Go.Proofs.Ytpegnafapjcanaa
