/- Shares of a secret, reckoned: of splitting, putting together, refreshing; what the eighth layer's laws ask of them. No program in sight, no condition of its own. -/
import Derived.Test.YtpegnafapjcanaaLagr
namespace Go.Proofs.Ytpegnafapjcanaa

/-- The polynomial of the byte i. -/
def polL (sec : List UInt8) (t : Nat) (draws : List UInt8) (i : Nat) : List UInt8 := sec.getD i 0 :: (List.range (t - 1)).map fun j => draws.getD (32 * j + i) 0
/-- A share: its place, and 32 bytes. -/
def shareB (sec : List UInt8) (x : UInt8) (t : Nat) (draws : List UInt8) : List UInt8 := x :: (List.range 32).map fun i => ge (polL sec t draws i) x
def shX (sh : List UInt8) : UInt8 := sh.getD 0 0
def shY (sh : List UInt8) (k : Nat) : UInt8 := sh.getD (k + 1) 0
def splitB (sec : List UInt8) (n t : Nat) (draws : List UInt8) : List (List UInt8) := (List.range n).map fun i => shareB sec (UInt8.ofNat (i + 1)) t draws
/-- What is put together. -/
def combB (L : List (List UInt8)) : List UInt8 := (List.range 32).map fun k => lagr (fun i => shX (L.getD i [])) (fun i => shY (L.getD i []) k) L.length 0
def zeros32 : List UInt8 := List.replicate 32 0
/-- A share with another's values added. -/
def addY (sh other : List UInt8) : List UInt8 := shX sh :: (List.range 32).map fun k => shY other k ^^^ shY sh k
def refrB (L : List (List UInt8)) (t : Nat) (draws : List UInt8) : List (List UInt8) := L.map fun sh => addY sh (shareB zeros32 (shX sh) t draws)
/-- What is wrong with the places: one is 0; two are the same. -/
def NoughtIn (L : List (List UInt8)) : Prop := ∃ i, i < L.length ∧ shX (L.getD i []) = 0
def TwiceIn (L : List (List UInt8)) : Prop := ∃ k i, k < i ∧ i < L.length ∧ shX (L.getD k []) = shX (L.getD i [])
open Classical in
noncomputable def placesB (L : List (List UInt8)) : Nat := if NoughtIn L then 1 else if TwiceIn L then 7 else 0
theorem placesB_cases (L : List (List UInt8)) : (placesB L = 1 ∧ NoughtIn L) ∨ (placesB L = 7 ∧ ¬ NoughtIn L ∧ TwiceIn L) ∨ (placesB L = 0 ∧ ¬ NoughtIn L ∧ ¬ TwiceIn L) := by
  unfold placesB
  by_cases h : NoughtIn L
  · rw [if_pos h]; exact .inl ⟨rfl, h⟩
  · rw [if_neg h]
    by_cases h2 : TwiceIn L
    · rw [if_pos h2]; exact .inr (.inl ⟨rfl, h, h2⟩)
    · rw [if_neg h2]; exact .inr (.inr ⟨rfl, h, h2⟩)
theorem shareB_length (sec : List UInt8) (x : UInt8) (t : Nat) (draws : List UInt8) : (shareB sec x t draws).length = 33 := by simp [shareB]
theorem shareB_X (sec : List UInt8) (x : UInt8) (t : Nat) (draws : List UInt8) : shX (shareB sec x t draws) = x := rfl
theorem range_getD {α : Type} (f : Nat → α) (d : α) {n k : Nat} (h : k < n) : ((List.range n).map f).getD k d = f k := by
  rw [List.getD, List.getElem?_map, List.getElem?_range h]
  rfl
theorem shareB_Y (sec : List UInt8) (x : UInt8) (t : Nat) (draws : List UInt8) {k : Nat} (h : k < 32) : shY (shareB sec x t draws) k = ge (polL sec t draws k) x := by
  unfold shY shareB
  rw [List.getD_cons_succ]
  exact range_getD _ _ h
theorem splitB_length (sec : List UInt8) (n t : Nat) (draws : List UInt8) : (splitB sec n t draws).length = n := by simp [splitB]
theorem splitB_get (sec : List UInt8) (n t : Nat) (draws : List UInt8) {i : Nat} (h : i < n) : (splitB sec n t draws).getD i [] = shareB sec (UInt8.ofNat (i + 1)) t draws := range_getD _ _ h
theorem combB_length (L : List (List UInt8)) : (combB L).length = 32 := by simp [combB]
theorem addY_length (sh other : List UInt8) : (addY sh other).length = 33 := by simp [addY]
theorem addY_X (sh other : List UInt8) : shX (addY sh other) = shX sh := rfl
theorem addY_Y (sh other : List UInt8) {k : Nat} (h : k < 32) : shY (addY sh other) k = shY other k ^^^ shY sh k := by
  show (addY sh other).getD (k + 1) 0 = _
  unfold addY
  rw [List.getD_cons_succ]
  exact range_getD _ _ h
theorem refrB_length (L : List (List UInt8)) (t : Nat) (draws : List UInt8) : (refrB L t draws).length = L.length := by simp [refrB]
theorem refrB_get (L : List (List UInt8)) (t : Nat) (draws : List UInt8) {i : Nat} (h : i < L.length) : (refrB L t draws).getD i [] = addY (L.getD i []) (shareB zeros32 (shX (L.getD i [])) t draws) := by
  unfold refrB
  rw [List.getD, List.getElem?_map, List.getD, List.getElem?_eq_getElem h]
  rfl
/-- Shares whose values lie on polynomials of t coefficients, whose constants are the secret. -/
def OnPoly (t : Nat) (sec : List UInt8) (L : List (List UInt8)) : Prop :=
  ∃ f : Nat → UInt8 → UInt8, (∀ k, k < 32 → PolyF t (f k) ∧ f k 0 = sec.getD k 0) ∧ ∀ i, i < L.length → ∀ k, k < 32 → shY (L.getD i []) k = f k (shX (L.getD i []))
theorem polL_length (sec : List UInt8) {t : Nat} (ht : 1 ≤ t) (draws : List UInt8) (i : Nat) : (polL sec t draws i).length = t := by
  simp [polL]
  omega
theorem zero_gm' (a : UInt8) : gm 0 a = 0 := zero_gm a
theorem ge_const (c : UInt8) (l : List UInt8) : ge (c :: l) 0 = c := by
  show c ^^^ gm 0 (ge l 0) = c
  rw [zero_gm, bx_zero]
theorem splitB_on (sec : List UInt8) (n : Nat) {t : Nat} (ht : 1 ≤ t) (draws : List UInt8) : OnPoly t sec (splitB sec n t draws) := by
  refine ⟨fun k => ge (polL sec t draws k), fun k _ => ⟨?_, ge_const _ _⟩, fun i hi k hk => ?_⟩
  · have h := ge_poly (polL sec t draws k)
    rw [polL_length sec ht] at h
    exact h
  · rw [splitB_length] at hi
    rw [splitB_get sec n t draws hi, shareB_Y sec _ t draws hk, shareB_X]
theorem zeros_get (k : Nat) : zeros32.getD k 0 = 0 := by
  unfold zeros32
  rw [List.getD, List.getElem?_replicate]
  split <;> rfl
theorem refrB_on {sec : List UInt8} {t : Nat} (ht : 1 ≤ t) {L : List (List UInt8)} (draws : List UInt8) (h : OnPoly t sec L) : OnPoly t sec (refrB L t draws) := by
  obtain ⟨f, hf, hL⟩ := h
  refine ⟨fun k z => ge (polL zeros32 t draws k) z ^^^ f k z, fun k hk => ⟨?_, ?_⟩, fun i hi k hk => ?_⟩
  · have h := ge_poly (polL zeros32 t draws k)
    rw [polL_length zeros32 ht] at h
    exact h.add (hf k hk).1
  · show ge (polL zeros32 t draws k) 0 ^^^ f k 0 = _
    rw [(hf k hk).2]
    unfold polL
    rw [ge_const, zeros_get, zero_bx]
  · rw [refrB_length] at hi
    rw [refrB_get L t draws hi, addY_Y _ _ hk, addY_X, shareB_Y _ _ _ _ hk, hL i hi k hk]
theorem refrB_X (L : List (List UInt8)) (t : Nat) (draws : List UInt8) {i : Nat} (h : i < L.length) : shX ((refrB L t draws).getD i []) = shX (L.getD i []) := by rw [refrB_get L t draws h, addY_X]
theorem ext32 {a b : List UInt8} (ha : a.length = 32) (hb : b.length = 32) (h : ∀ k, k < 32 → a.getD k 0 = b.getD k 0) : a = b := by
  apply List.ext_getElem
  · rw [ha, hb]
  · intro k h1 h2
    have h3 := h k (by omega)
    rw [List.getD, List.getD, List.getElem?_eq_getElem h1, List.getElem?_eq_getElem h2] at h3
    exact h3
theorem combB_get (L : List (List UInt8)) {k : Nat} (hk : k < 32) : (combB L).getD k 0 = lagr (fun i => shX (L.getD i [])) (fun i => shY (L.getD i []) k) L.length 0 := range_getD _ _ hk
/-- As many shares as coefficients, of unlike places, are put together to the secret. -/
theorem combB_on {sec : List UInt8} {t : Nat} {L : List (List UInt8)} (hs : sec.length = 32) (h : OnPoly t sec L) (ht : t ≤ L.length) (hd : ¬ TwiceIn L) : combB L = sec := by
  obtain ⟨f, hf, hL⟩ := h
  refine ext32 (combB_length L) hs fun k hk => ?_
  rw [combB_get L hk]
  have e : lagr (fun i => shX (L.getD i [])) (fun i => shY (L.getD i []) k) L.length 0 = lagr (fun i => shX (L.getD i [])) (fun i => f k (shX (L.getD i []))) L.length 0 := by
    unfold lagr
    exact sumE_eq _ fun i hi => congrArg (gm _) (hL i hi k hk)
  rw [e, lagr_poly (f := f k) _ (fun i j hij hj he => hd ⟨i, j, hij, hj, he⟩) ((hf k hk).1.mono ht), (hf k hk).2]
/-- The weight of the share i, as it is reckoned. -/
def upN (X : Nat → UInt8) (i m : Nat) : UInt8 := prodE X i m
def downN (X : Nat → UInt8) (i m : Nat) : UInt8 := prodE (fun k => X k ^^^ X i) i m
def wgt (X : Nat → UInt8) (i m : Nat) : UInt8 := gm (upN X i m) (gi (downN X i m))
theorem lagr_zero (X y : Nat → UInt8) (m : Nat) : lagr X y m 0 = sumE (fun i => gm (wgt X i m) (y i)) m := by
  unfold lagr wgt upN downN
  refine sumE_eq m fun i _ => ?_
  have e1 : prodE (fun k => 0 ^^^ X k) i m = prodE X i m := prodE_eq i m fun k _ _ => zero_bx _
  have e2 : prodE (fun k => X i ^^^ X k) i m = prodE (fun k => X k ^^^ X i) i m := prodE_eq i m fun k _ _ => bx_comm _ _
  rw [e1, e2]
/-- Another draw by which another secret has the same share. -/
theorem share_hides (a b c d : UInt8) {x : UInt8} (hx : x ≠ 0) (hd : d = gm (a ^^^ b) (gi x) ^^^ c) : ge [a, c] x = ge [b, d] x := by
  subst hd
  show a ^^^ gm x (c ^^^ gm x 0) = b ^^^ gm x ((gm (a ^^^ b) (gi x) ^^^ c) ^^^ gm x 0)
  rw [gm_zero, bx_zero, bx_zero, gm_right]
  have e : gm x (gm (a ^^^ b) (gi x)) = a ^^^ b := by rw [gm_comm (a ^^^ b), ← gm_assoc, gm_gi hx, one_gm]
  rw [e]
  have e2 : b ^^^ (a ^^^ b ^^^ gm x c) = (b ^^^ b) ^^^ (a ^^^ gm x c) := by ac_rfl
  rw [e2, bx_self, zero_bx]
theorem polL_two (sec draws : List UInt8) (i : Nat) : polL sec 2 draws i = [sec.getD i 0, draws.getD i 0] := by
  simp [polL]
theorem shareB_hides (a b c d : List UInt8) {x : UInt8} (hx : x ≠ 0) (hd : ∀ k, k < 32 → d.getD k 0 = gm (a.getD k 0 ^^^ b.getD k 0) (gi x) ^^^ c.getD k 0) : shareB a x 2 c = shareB b x 2 d := by
  unfold shareB
  congr 1
  refine List.map_congr_left fun k hk => ?_
  rw [polL_two, polL_two]
  exact share_hides _ _ _ _ hx (hd k (List.mem_range.1 hk))
/-- Sums of shares are put together to the sum. -/
theorem combB_sum {A B C : List (List UInt8)} (h1 : A.length = B.length) (h2 : C.length = B.length)
    (hX : ∀ i, i < B.length → shX (A.getD i []) = shX (B.getD i []) ∧ shX (C.getD i []) = shX (B.getD i [])) (hY : ∀ i, i < B.length → ∀ k, k < 32 → shY (C.getD i []) k = shY (A.getD i []) k ^^^ shY (B.getD i []) k) {k : Nat} (hk : k < 32) :
    (combB C).getD k 0 = (combB A).getD k 0 ^^^ (combB B).getD k 0 := by
  have hw : ∀ (M : List (List UInt8)), (∀ i, i < B.length → shX (M.getD i []) = shX (B.getD i [])) → ∀ i, wgt (fun i => shX (M.getD i [])) i B.length = wgt (fun i => shX (B.getD i [])) i B.length ∨ ¬ i < B.length := fun M hM i => by
    by_cases hi : i < B.length
    · left
      unfold wgt upN downN
      have e1 : prodE (fun i => shX (M.getD i [])) i B.length = prodE (fun i => shX (B.getD i [])) i B.length := prodE_eq i B.length fun k hk _ => hM k hk
      have e2 : prodE (fun k => shX (M.getD k []) ^^^ shX (M.getD i [])) i B.length = prodE (fun k => shX (B.getD k []) ^^^ shX (B.getD i [])) i B.length := prodE_eq i B.length fun k hk _ => by rw [hM k hk, hM i hi]
      rw [e1, e2]
    · exact .inr hi
  rw [combB_get A hk, combB_get B hk, combB_get C hk, lagr_zero, lagr_zero, lagr_zero, h1, h2, ← sumE_add]
  refine sumE_eq _ fun i hi => ?_
  have eA := (hw A (fun i hi => (hX i hi).1) i).resolve_right (fun h => h hi)
  have eC := (hw C (fun i hi => (hX i hi).2) i).resolve_right (fun h => h hi)
  rw [eA, eC, hY i hi k hk, gm_right]
end Go.Proofs.Ytpegnafapjcanaa
