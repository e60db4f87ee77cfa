/- Polynomials over the field of 256 elements: as many roots as coefficients only by the one that is 0; what is put together of values at unlike places is the polynomial's own value (Lagrange). No condition of its own. -/
import Derived.Test.YtpegnafapjcanaaGf
namespace Go.Proofs.Ytpegnafapjcanaa

/-- A polynomial of n coefficients. -/
def PolyF : Nat → (UInt8 → UInt8) → Prop
  | 0, f => ∀ z, f z = 0
  | n + 1, f => ∃ (c : UInt8) (g : UInt8 → UInt8), PolyF n g ∧ ∀ z, f z = c ^^^ gm z (g z)
theorem PolyF.eq : ∀ {n : Nat} {f g : UInt8 → UInt8}, PolyF n f → (∀ z, g z = f z) → PolyF n g
  | 0, _, _, h, e => fun z => by rw [e z]; exact h z
  | _ + 1, _, _, ⟨c, p, hp, hf⟩, e => ⟨c, p, hp, fun z => by rw [e z]; exact hf z⟩
theorem PolyF.zero : ∀ n : Nat, PolyF n fun _ => 0
  | 0 => fun _ => rfl
  | n + 1 => ⟨0, fun _ => 0, PolyF.zero n, fun z => by rw [gm_zero]; rfl⟩
theorem PolyF.more : ∀ {n : Nat} {f : UInt8 → UInt8}, PolyF n f → PolyF (n + 1) f
  | 0, _, h => ⟨0, fun _ => 0, fun _ => rfl, fun z => by rw [h z, gm_zero]; rfl⟩
  | _ + 1, _, ⟨c, p, hp, hf⟩ => ⟨c, p, hp.more, hf⟩
theorem PolyF.mono {n m : Nat} {f : UInt8 → UInt8} (h : PolyF n f) (hm : n ≤ m) : PolyF m f := by
  induction m with
  | zero => obtain rfl : n = 0 := by omega
            exact h
  | succ m ih =>
    by_cases e : n = m + 1
    · exact e ▸ h
    · exact (ih (by omega)).more
theorem PolyF.add : ∀ {n : Nat} {f g : UInt8 → UInt8}, PolyF n f → PolyF n g → PolyF n fun z => f z ^^^ g z
  | 0, f, g, h, k => fun z => by show f z ^^^ g z = 0; rw [h z, k z]; rfl
  | _ + 1, f, g, ⟨c, p, hp, hf⟩, ⟨d, q, hq, hg⟩ => ⟨c ^^^ d, _, hp.add hq, fun z => by
    show f z ^^^ g z = _
    rw [hf z, hg z, gm_right]
    ac_rfl⟩
theorem PolyF.scale : ∀ {n : Nat} {f : UInt8 → UInt8} (a : UInt8), PolyF n f → PolyF n fun z => gm a (f z)
  | 0, f, a, h => fun z => by show gm a (f z) = 0; rw [h z, gm_zero]
  | _ + 1, f, a, ⟨c, p, hp, hf⟩ => ⟨gm a c, _, hp.scale a, fun z => by
    show gm a (f z) = _
    rw [hf z, gm_right]
    congr 1
    ac_rfl⟩
theorem PolyF.const (n : Nat) (c : UInt8) : PolyF (n + 1) fun _ => c := ⟨c, fun _ => 0, PolyF.zero n, fun z => by rw [gm_zero, bx_zero]⟩
theorem PolyF.shift {n : Nat} {f : UInt8 → UInt8} (h : PolyF n f) : PolyF (n + 1) fun z => gm z (f z) := ⟨0, f, h, fun z => by rw [zero_bx]⟩
/-- Times the element and a constant. -/
theorem PolyF.lin {n : Nat} {f : UInt8 → UInt8} (c : UInt8) (h : PolyF n f) : PolyF (n + 1) fun z => gm (z ^^^ c) (f z) :=
  (h.shift.add (h.scale c).more).eq fun z => by rw [gm_left]
/-- What is left without a root. -/
theorem PolyF.root : ∀ {n : Nat} {f : UInt8 → UInt8} (r : UInt8), PolyF (n + 1) f → ∃ q, PolyF n q ∧ ∀ z, f z = f r ^^^ gm (z ^^^ r) (q z)
  | 0, f, r, ⟨c, g, hg, hf⟩ => ⟨fun _ => 0, fun _ => rfl, fun z => by rw [hf z, hf r, hg z, hg r, gm_zero, gm_zero, gm_zero, bx_zero, bx_zero]⟩
  | n + 1, f, r, ⟨c, g, hg, hf⟩ => by
    obtain ⟨q, hq, hgq⟩ := PolyF.root r hg
    refine ⟨fun z => g r ^^^ gm z (q z), ⟨g r, q, hq, fun _ => rfl⟩, fun z => ?_⟩
    show f z = f r ^^^ gm (z ^^^ r) (g r ^^^ gm z (q z))
    rw [hf z, hf r, hgq z]
    obtain ⟨s, hs⟩ : ∃ s, s = g r := ⟨_, rfl⟩
    obtain ⟨t, ht⟩ : ∃ t, t = q z := ⟨_, rfl⟩
    rw [← hs, ← ht]
    have e1 : gm z (s ^^^ gm (z ^^^ r) t) = gm z s ^^^ gm (z ^^^ r) (gm z t) := by
      rw [gm_right]
      congr 1
      ac_rfl
    have e2 : gm (z ^^^ r) (s ^^^ gm z t) = (gm z s ^^^ gm r s) ^^^ gm (z ^^^ r) (gm z t) := by rw [gm_right, gm_left z r s]
    rw [e1, e2]
    obtain ⟨y, hy⟩ : ∃ y, y = gm (z ^^^ r) (gm z t) := ⟨_, rfl⟩
    obtain ⟨x, hx⟩ : ∃ x, x = gm z s := ⟨_, rfl⟩
    obtain ⟨u, hu⟩ : ∃ u, u = gm r s := ⟨_, rfl⟩
    rw [← hy, ← hx, ← hu]
    have e3 : (c ^^^ u) ^^^ ((x ^^^ u) ^^^ y) = (c ^^^ (x ^^^ y)) ^^^ (u ^^^ u) := by ac_rfl
    rw [e3, bx_self, bx_zero]
/-- As many roots as coefficients. -/
theorem PolyF.none : ∀ {n : Nat} {f : UInt8 → UInt8} (x : Nat → UInt8), (∀ i j, i < j → j < n → x i ≠ x j) → PolyF n f → (∀ i, i < n → f (x i) = 0) → ∀ z, f z = 0
  | 0, _, _, _, h, _, z => h z
  | n + 1, f, x, hx, h, h0, z => by
    obtain ⟨q, hq, hf⟩ := h.root (x n)
    have hq0 : ∀ z, q z = 0 := PolyF.none x (fun i j hij hj => hx i j hij (by omega)) hq (fun i hi => by
      have h1 := hf (x i)
      rw [h0 i (by omega), h0 n (by omega), zero_bx] at h1
      rcases gm_none h1.symm with h2 | h2
      · exact absurd (bx_eq h2) (hx i n hi (by omega))
      · exact h2)
    rw [hf z, hq0 z, gm_zero, h0 n (by omega)]
    rfl
/-- The product of the values below K, but for i's. -/
def prodE (g : Nat → UInt8) (i : Nat) : Nat → UInt8
  | 0 => 1
  | K + 1 => if K = i then prodE g i K else gm (prodE g i K) (g K)
/-- The sum of the values below K. -/
def sumE (g : Nat → UInt8) : Nat → UInt8
  | 0 => 0
  | K + 1 => sumE g K ^^^ g K
theorem sumE_eq {g h : Nat → UInt8} : ∀ (K : Nat), (∀ i, i < K → g i = h i) → sumE g K = sumE h K
  | 0, _ => rfl
  | K + 1, e => by
    show sumE g K ^^^ g K = sumE h K ^^^ h K
    rw [sumE_eq K (fun i hi => e i (by omega)), e K (by omega)]
theorem sumE_zero {g : Nat → UInt8} : ∀ (K : Nat), (∀ i, i < K → g i = 0) → sumE g K = 0
  | 0, _ => rfl
  | K + 1, e => by
    show sumE g K ^^^ g K = 0
    rw [sumE_zero K (fun i hi => e i (by omega)), e K (by omega)]
    rfl
theorem sumE_one {g : Nat → UInt8} (j : Nat) : ∀ (K : Nat), j < K → (∀ i, i < K → i ≠ j → g i = 0) → sumE g K = g j
  | K + 1, hj, e => by
    show sumE g K ^^^ g K = g j
    by_cases h : j = K
    · subst h
      rw [sumE_zero j (fun i hi => e i (by omega) (by omega)), zero_bx]
    · rw [sumE_one j K (by omega) (fun i hi => e i (by omega)), e K (by omega) (fun h2 => h h2.symm), bx_zero]
theorem sumE_add (g h : Nat → UInt8) : ∀ K, sumE (fun i => g i ^^^ h i) K = sumE g K ^^^ sumE h K
  | 0 => (bx_self 0).symm
  | K + 1 => by
    show sumE (fun i => g i ^^^ h i) K ^^^ (g K ^^^ h K) = (sumE g K ^^^ g K) ^^^ (sumE h K ^^^ h K)
    rw [sumE_add g h K]
    ac_rfl
theorem sumE_mul (a : UInt8) (g : Nat → UInt8) : ∀ K, sumE (fun i => gm a (g i)) K = gm a (sumE g K)
  | 0 => (gm_zero a).symm
  | K + 1 => by
    show sumE (fun i => gm a (g i)) K ^^^ gm a (g K) = gm a (sumE g K ^^^ g K)
    rw [sumE_mul a g K, gm_right]
theorem prodE_ne {g : Nat → UInt8} (i : Nat) : ∀ K, (∀ k, k < K → k ≠ i → g k ≠ 0) → prodE g i K ≠ 0
  | 0, _ => by show (1 : UInt8) ≠ 0; decide
  | K + 1, h => by
    unfold prodE
    split
    · exact prodE_ne i K fun k hk => h k (by omega)
    · rename_i hne
      intro e
      rcases gm_none e with e | e
      · exact prodE_ne i K (fun k hk => h k (by omega)) e
      · exact h K (by omega) hne e
theorem prodE_zero {g : Nat → UInt8} {i j : Nat} (hj : j ≠ i) (h0 : g j = 0) : ∀ K, j < K → prodE g i K = 0
  | K + 1, h => by
    unfold prodE
    by_cases e : j = K
    · subst e
      rw [if_neg hj, h0, gm_zero]
    · split
      · exact prodE_zero hj h0 K (by omega)
      · rw [prodE_zero hj h0 K (by omega), zero_gm]
theorem prodE_eq {g h : Nat → UInt8} (i : Nat) : ∀ (K : Nat), (∀ k, k < K → k ≠ i → g k = h k) → prodE g i K = prodE h i K
  | 0, _ => rfl
  | K + 1, e => by
    unfold prodE
    rw [prodE_eq i K (fun k hk => e k (by omega))]
    split
    · rfl
    · rename_i hne
      rw [e K (by omega) hne]
theorem prodE_poly (x : Nat → UInt8) (i : Nat) : ∀ K, PolyF (if i < K then K else K + 1) fun z => prodE (fun k => z ^^^ x k) i K
  | 0 => by
    rw [if_neg (by omega)]
    exact PolyF.const 0 1
  | K + 1 => by
    have ih := prodE_poly x i K
    by_cases e : K = i
    · rw [if_pos (by omega)]
      rw [if_neg (by omega)] at ih
      exact ih.eq fun z => by show (if K = i then _ else _) = _; rw [if_pos e]
    · have h2 := ih.lin (x K)
      have h3 : (if i < K then K else K + 1) + 1 = if i < K + 1 then K + 1 else K + 1 + 1 := by split <;> split <;> omega
      rw [h3] at h2
      exact h2.eq fun z => by show (if K = i then _ else _) = _; rw [if_neg e, gm_comm]
theorem sumE_poly {n : Nat} (g : Nat → UInt8 → UInt8) : ∀ K, (∀ i, i < K → PolyF n (g i)) → PolyF n fun z => sumE (fun i => g i z) K
  | 0, _ => PolyF.zero n
  | K + 1, h => (sumE_poly g K fun i hi => h i (by omega)).add (h K (by omega))
/-- The value at z of what is put together of the values y at the places x. -/
def lagr (x : Nat → UInt8) (y : Nat → UInt8) (m : Nat) (z : UInt8) : UInt8 := sumE (fun i => gm (gm (prodE (fun k => z ^^^ x k) i m) (gi (prodE (fun k => x i ^^^ x k) i m))) (y i)) m
theorem lagr_poly {m : Nat} {f : UInt8 → UInt8} (x : Nat → UInt8) (hx : ∀ i j, i < j → j < m → x i ≠ x j) (hf : PolyF m f) (z : UInt8) : lagr x (fun i => f (x i)) m z = f z := by
  have hxx : ∀ i j, i < m → j < m → i ≠ j → x i ^^^ x j ≠ 0 := fun i j hi hj hij e => by
    have e2 := bx_eq e
    rcases Nat.lt_or_gt_of_ne hij with h | h
    · exact hx i j h hj e2
    · exact hx j i h hi e2.symm
  have hP : PolyF m fun z => lagr x (fun i => f (x i)) m z ^^^ f z := by
    refine PolyF.add (sumE_poly _ m fun i hi => ?_) hf
    have h := prodE_poly x i m
    rw [if_pos hi] at h
    exact (h.scale (gm (gi (prodE (fun k => x i ^^^ x k) i m)) (f (x i)))).eq fun z => by
      show gm (gm (prodE (fun k => z ^^^ x k) i m) (gi (prodE (fun k => x i ^^^ x k) i m))) (f (x i)) = _
      ac_rfl
  have h0 := hP.none x hx (fun j hj => by
    show lagr x (fun i => f (x i)) m (x j) ^^^ f (x j) = 0
    have e : lagr x (fun i => f (x i)) m (x j) = f (x j) := by
      unfold lagr
      rw [sumE_one j m hj (fun i _ hij => by rw [prodE_zero (i := i) (j := j) (fun e => hij e.symm) (bx_self _) m hj, zero_gm, zero_gm])]
      rw [gm_gi (prodE_ne j m fun k hk hkj => hxx j k hj hk (fun e => hkj e.symm)), one_gm]
    rw [e, bx_self]) z
  exact bx_eq h0
theorem lagr_add (x y u : Nat → UInt8) (m : Nat) (z : UInt8) : lagr x (fun i => y i ^^^ u i) m z = lagr x y m z ^^^ lagr x u m z := by
  unfold lagr
  rw [← sumE_add]
  exact sumE_eq m fun i _ => gm_right ..
theorem ge_poly : ∀ (l : List UInt8), PolyF l.length (ge l)
  | [] => fun _ => rfl
  | c :: l => ⟨c, ge l, ge_poly l, fun _ => rfl⟩
end Go.Proofs.Ytpegnafapjcanaa
