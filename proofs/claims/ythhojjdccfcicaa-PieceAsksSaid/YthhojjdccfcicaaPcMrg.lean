/- What a map of pieces holds while lists are merged, reckoned: and what its pieces, sorted, are. No program in sight. -/
import Derived.Test.YthhojjdccfcicaaPcCol
namespace Go.Proofs.Ythhojjdccfcicaa
open Go.RowKit

/-- What counts of some pieces, by their places. -/
structure MgOf (f : ByteArray × Int → Option PcO) (l : List Pc) : Prop where
  src : ∀ k p, f k = some p → p.1 ∈ l ∧ p.1.may ∧ (p.1.s, p.1.t) = k
  best : ∀ k p, f k = some p → ∀ q ∈ l, q.may → (q.s, q.t) = k → ¬ outP q p.1
  all : ∀ q ∈ l, q.may → (f (q.s, q.t)).isSome = true
theorem MgOf.start : MgOf (fun _ => none) [] where
  src _ _ h := by cases h
  best _ _ h := by cases h
  all _ h := by cases h
theorem MgOf.skip {f : ByteArray × Int → Option PcO} {l : List Pc} {p : Pc} (h : MgOf f l) (hm : ¬ p.may) : MgOf f (l ++ [p]) := by
  refine ⟨fun k q hq => ?_, fun k q hq r hr hrm hk => ?_, fun q hq hqm => ?_⟩
  · obtain ⟨h1, h2⟩ := h.src k q hq
    exact ⟨List.mem_append.2 (.inl h1), h2⟩
  · rcases List.mem_append.1 hr with h1 | h1
    · exact h.best k q hq r h1 hrm hk
    · rw [List.mem_singleton] at h1
      subst h1
      exact absurd hrm hm
  · rcases List.mem_append.1 hq with h1 | h1
    · exact h.all q h1 hqm
    · rw [List.mem_singleton] at h1
      subst h1
      exact absurd hqm hm
theorem MgOf.keep {f : ByteArray × Int → Option PcO} {l : List Pc} {p : Pc} (h : MgOf f l) {old : PcO} (hf : f (p.s, p.t) = some old) (ho : ¬ outP p old.1) : MgOf f (l ++ [p]) := by
  refine ⟨fun k q hq => ?_, fun k q hq r hr hrm hk => ?_, fun q hq hqm => ?_⟩
  · obtain ⟨h1, h2⟩ := h.src k q hq
    exact ⟨List.mem_append.2 (.inl h1), h2⟩
  · rcases List.mem_append.1 hr with h1 | h1
    · exact h.best k q hq r h1 hrm hk
    · rw [List.mem_singleton] at h1
      subst h1
      subst hk
      rw [hf] at hq
      injection hq with hq
      rw [← hq]
      exact ho
  · rcases List.mem_append.1 hq with h1 | h1
    · exact h.all q h1 hqm
    · rw [List.mem_singleton] at h1
      subst h1
      rw [hf]
      rfl
def putP (f : ByteArray × Int → Option PcO) (p : PcO) : ByteArray × Int → Option PcO := fun k => if k = (p.1.s, p.1.t) then some p else f k
theorem outP_irrefl (p : Pc) : ¬ outP p p := by
  rw [outP_iff]
  omega
theorem outP_over {p q r : Pc} (h : outP q p) (g : outP p r) : outP q r := by
  rw [outP_iff] at *
  omega
theorem MgOf.put {f : ByteArray × Int → Option PcO} {l : List Pc} {p : PcO} (h : MgOf f l) (hm : p.1.may) (ho : ∀ old, f (p.1.s, p.1.t) = some old → outP p.1 old.1) : MgOf (putP f p) (l ++ [p.1]) := by
  refine ⟨fun k q hq => ?_, fun k q hq r hr hrm hk => ?_, fun q hq hqm => ?_⟩
  · unfold putP at hq
    split at hq
    · next e =>
      injection hq with hq
      subst hq
      exact ⟨List.mem_append.2 (.inr (List.mem_singleton.2 rfl)), hm, e.symm⟩
    · obtain ⟨h1, h2⟩ := h.src k q hq
      exact ⟨List.mem_append.2 (.inl h1), h2⟩
  · unfold putP at hq
    split at hq
    · next e =>
      injection hq with hq
      subst hq
      rcases List.mem_append.1 hr with h1 | h1
      · intro hout
        have hs := h.all r h1 hrm
        rw [hk, e] at hs
        obtain ⟨old, hold⟩ := Option.isSome_iff_exists.1 hs
        exact h.best _ old hold r h1 hrm (hk.trans e) (outP_over hout (ho old hold))
      · rw [List.mem_singleton] at h1
        rw [h1]
        exact outP_irrefl _
    · next e =>
      rcases List.mem_append.1 hr with h1 | h1
      · exact h.best k q hq r h1 hrm hk
      · rw [List.mem_singleton] at h1
        subst h1
        exact absurd hk.symm e
  · unfold putP
    split
    · rfl
    · next e =>
      rcases List.mem_append.1 hq with h1 | h1
      · exact h.all q h1 hqm
      · rw [List.mem_singleton] at h1
        subst h1
        exact absurd rfl e
theorem vals_mem {f : ByteArray × Int → Option PcO} {ks : List (ByteArray × Int)} {xs : List PcO} (h : xs.map some = ks.map f) {x : PcO} (hx : x ∈ xs) : ∃ k ∈ ks, f k = some x := by
  have h1 : some x ∈ xs.map some := List.mem_map_of_mem hx
  rw [h] at h1
  obtain ⟨k, hk, e⟩ := List.mem_map.1 h1
  exact ⟨k, hk, e⟩
theorem vals_keys {f : ByteArray × Int → Option PcO} {l : List Pc} (h : MgOf f l) : ∀ {ks : List (ByteArray × Int)} {xs : List PcO}, xs.map some = ks.map f → xs.map (fun p : PcO => (p.1.s, p.1.t)) = ks
  | [], [], _ => rfl
  | [], _ :: _, e => by simp at e
  | _ :: _, [], e => by simp at e
  | k :: ks, x :: xs, e => by
    rw [List.map_cons, List.map_cons] at e
    injection e with e1 e2
    rw [List.map_cons, vals_keys h e2, (h.src k x e1.symm).2.2]
theorem MgOf.merged {f : ByteArray × Int → Option PcO} {l : List Pc} (h : MgOf f l) {xs qs : List PcO} (hv : ValsOf f xs) (hp : qs.Perm xs) (hs : qs.Pairwise fun a b => lessP b.1 a.1 = false) : MergedOf (qs.map (·.1)) l := by
  obtain ⟨ks, hn, hk, he⟩ := hv
  have hmem : ∀ q : PcO, q ∈ qs → ∃ k, f k = some q := fun q hq => by
    obtain ⟨k, _, e⟩ := vals_mem he (hp.mem_iff.1 hq)
    exact ⟨k, e⟩
  have hnd : (qs.map (fun p : PcO => (p.1.s, p.1.t))).Nodup := by
    rw [(hp.map _).nodup_iff, vals_keys h he]
    exact hn
  refine ⟨?_, fun p hp1 => ?_, fun p hp1 q hq hqm hkk => ?_, fun q hq hqm => ?_⟩
  · rw [List.pairwise_map]
    have h2 : qs.Pairwise fun a b : PcO => (a.1.s, a.1.t) ≠ (b.1.s, b.1.t) := List.pairwise_map.1 hnd
    refine (hs.and h2).imp fun {a b} hab => ?_
    obtain ⟨h3, h4⟩ := hab
    rcases (not_less_iff b.1 a.1).1 h3 with h5 | ⟨h5, _⟩
    · exact h5
    · exact absurd (by rw [h5.1, h5.2]) h4
  · obtain ⟨q, hq, rfl⟩ := List.mem_map.1 hp1
    obtain ⟨k, e⟩ := hmem q hq
    exact ⟨(h.src k q e).1, (h.src k q e).2.1⟩
  · obtain ⟨x, hx, rfl⟩ := List.mem_map.1 hp1
    obtain ⟨k, e⟩ := hmem x hx
    refine h.best k x e q hq hqm ?_
    rw [← (h.src k x e).2.2, hkk.1, hkk.2]
  · obtain ⟨x, hx⟩ := Option.isSome_iff_exists.1 (h.all q hq hqm)
    have h3 : (q.s, q.t) ∈ ks := (hk _).2 (h.all q hq hqm)
    have h4 : some x ∈ xs.map some := by
      rw [he, ← hx]
      exact List.mem_map_of_mem h3
    obtain ⟨y, hy, e⟩ := List.mem_map.1 h4
    injection e with e
    subst e
    have h5 := (h.src _ y hx).2.2
    injection h5 with h6 h7
    exact ⟨y.1, List.mem_map_of_mem (hp.mem_iff.2 hy), h6, h7⟩
/-- The lists up to here are in the map. -/
structure MgAt (w0 : World) (b : Nat) (l : List Pc) (w : World) : Prop where
  map : ∃ f, MapP w b l.length f ∧ MgOf f l
  base : w0.heap.size ≤ b
  below : Below w0.heap.size w0 w
theorem MgAt.on {w0 w w' : World} {b : Nat} {l : List Pc} (h : MgAt w0 b l w) (hb : Below w.heap.size w w') : MgAt w0 b l w' := by
  obtain ⟨f, h1, h2⟩ := h.map
  exact ⟨⟨f, MapK.below h1 hb (MapK.lt h1), h2⟩, h.base, h.below.trans (hb.mono h.below.size)⟩
theorem MapP.more {w : World} {b n m : Nat} {f : ByteArray × Int → Option PcO} (h : MapP w b n f) (hm : n ≤ m) : MapP w b m f := MapK.more h hm
theorem upd_put (f : ByteArray × Int → Option PcO) (p : PcO) : updK (fun k => (f k).map pcV) (p.1.s, p.1.t) (some (pcV p)) = fun k => (putP f p k).map pcV := by
  funext k
  unfold updK putP
  split <;> rfl
end Go.Proofs.Ythhojjdccfcicaa
