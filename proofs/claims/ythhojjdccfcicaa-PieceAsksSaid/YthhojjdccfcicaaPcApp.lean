/- Rows of pieces of a call's own: what they read as; append of pieces that came in. No condition. -/
import Derived.Test.YthhojjdccfcicaaPcAl
import Derived.Test.YthhojjdccfcicaaSrowB
namespace Go.Proofs.Ythhojjdccfcicaa
open Go.RowKit

def pcRows (l : List Pc) : List (List Value) := l.map Pc.vs
theorem pcRows_len (l : List Pc) : (pcRows l).length = l.length := by unfold pcRows; rw [List.length_map]
theorem pcRows_five (l : List Pc) : ∀ r ∈ pcRows l, r.length = 5 := fun r hr => by
  obtain ⟨p, _, rfl⟩ := List.mem_map.1 hr
  rfl
theorem pcRows_one (l : List Pc) : ∀ r ∈ pcRows l, ∀ u ∈ r, u.oneCell' = true := fun r hr u hu => by
  obtain ⟨p, _, rfl⟩ := List.mem_map.1 hr
  unfold Pc.vs at hu
  simp only [List.mem_cons, List.not_mem_nil, or_false] at hu
  rcases hu with rfl | rfl | rfl | rfl | rfl <;> rfl
theorem pcRows_at (l : List Pc) {i : Nat} (hi : i < l.length) : (pcRows l).getD i [] = l[i].vs := by
  unfold pcRows
  rw [List.getD, List.getElem?_map, List.getElem?_eq_getElem hi]
  rfl
theorem ownR_rsp {w : World} {base : Nat} {e : TypeId} {u : Value} {l : List Pc} (h : OwnR 5 w base e u (pcRows l)) (hok : ∀ p ∈ l, p.Ok) (hl : l.length ≤ maxLen) : RsP w u l := by
  have hn : ∀ n c, u = .slice none n c → c = 0 := fun n c e => by
    rcases h.2.2 with ⟨h0, _⟩ | ⟨g, cap, cur, hv, _⟩
    · rw [h0] at e
      injection e with _ _ e
      exact e.symm
    · rw [hv] at e
      injection e with e
      cases e
  obtain ⟨A, c, rfl, hc⟩ := h.form
  rw [pcRows_len] at h hc hn ⊢
  refine ⟨⟨A, c, rfl, hl, fun i hi => ?_⟩, hn⟩
  rcases h.2.2 with ⟨h0, h1⟩ | ⟨g, cap, cur, hv, h2⟩
  · injection h0 with _ h3 _
    omega
  · injection hv with h3
    subst h3
    have hlt := (h.lt g rfl).2
    refine ⟨g, 0, rfl, hlt, fun j v hv => ?_, hok _ (List.getElem_mem hi)⟩
    have hj : j < 5 := by
      have := (List.getElem?_eq_some_iff.1 hv).1
      simpa [Pc.vs] using this
    have h4 := h.cell i j (by rw [pcRows_len]; exact hi) hj
    rw [pcRows_at l hi] at h4
    rw [Nat.zero_add]
    exact h4.trans hv
theorem wpList_append_pcs {P : Program} (w : World) {ops : Array Oper} {rest : List Oper} {o : Oper} {a : Act} {Q : Exit → Act → World → Prop} (hgd : o.guard = none) (s x : Operand) (t : TypeId)
    (ho : o.op = .call { callee := .builtin .append, args := #[s, x], argTypes := #[t, t] })
    (base : Nat) (e : TypeId) (i : TypeInfo) (z : Value) (bytes : Nat) (ht : P.underlying t = some (.slice e)) (hi : P.info? e = some i) (hz : i.zero = some z)
    (hsize : i.size = 5) (hby : i.bytes = bytes) (hzs : z.cells.size = 5)
    (v : Value) (R : List (List Value)) (hs : a.eval s = v) (hown : OwnR 5 w base e v R)
    (A : Option Addr) (c : Nat) (l : List Pc) (hx : a.eval x = .slice A l.length c) (hr : RsP w (.slice A l.length c) l)
    (h63 : R.length + l.length ≤ maxLen) (hb : (R.length + l.length) * bytes ≤ 140737488355328) (hbase : base ≤ w.heap.size)
    (h : ∀ v' w', OwnR 5 w' base e v' (R ++ pcRows l) → Next w w' base v v' → wpList P ops Q rest (a.put o.dst v') w') : wpList P ops Q (o :: rest) a w := by
  have fin : ∀ (v' : Value) (w' : World), w'.ownsRow base e 5 v' (R.length + l.length) (R.flatten ++ (pcRows l).flatten) → OwnR 5 w' base e v' (R ++ pcRows l) := fun v' w' k1 => by
    refine ⟨fun r hr => ?_, ?_⟩
    · rcases List.mem_append.1 hr with h4 | h4
      · exact hown.1 r h4
      · exact pcRows_five l r h4
    · rw [List.length_append, List.flatten_append, pcRows_len]
      exact k1
  cases A with
  | none =>
    have h0 : l = [] := by
      match l, hr with
      | [], _ => rfl
      | p :: l, hr =>
        obtain ⟨g, o, he, _⟩ := hr.at' (i := 0) (by simp)
        cases he
    subst h0
    obtain rfl : c = 0 := hr.nil _ _ rfl
    refine wpList_append_own_none hgd s x t ho base e i 5 ht hi v R.length R.flatten hs hown.2 hx (h v w ?_ ⟨Below.refl _ _, Nat.le_refl _, fun _ _ _ => rfl, .inl rfl⟩)
    show OwnR 5 w base e v (R ++ [])
    rw [List.append_nil]
    exact hown
  | some ad =>
    refine wpList_append_own_at w hgd s x t ho base e i z 5 bytes ht hi hz hsize hby hzs (by decide) v R.length R.flatten hs hown.2 ad l.length c (pcRows l).flatten hx (by rw [rows_length (pcRows_five l), pcRows_len]) ?_ ?_ h63 hb hbase fun v' w' k1 k2 _ k4 => h v' w' (fin v' w' k1) ⟨(Below.refl _ _).grown k2 hbase (fun k hk => (hown.lt k hk).1), k2.size, k2.block, ?_⟩
    · intro j u hu
      have hlen : (pcRows l).flatten.length = l.length * 5 := by rw [rows_length (pcRows_five l), pcRows_len]
      have hj : j < l.length * 5 := by
        have := (List.getElem?_eq_some_iff.1 hu).1
        omega
      have h2 : j / 5 < l.length := by omega
      obtain ⟨g, o', he, _, hat, _⟩ := hr.at' h2
      injection he with he
      subst he
      have h3 := rows_get (pcRows_five l) (j / 5) (j % 5) (by rw [pcRows_len]; exact h2) (by omega)
      rw [show j / 5 * 5 + j % 5 = j by omega, hu, pcRows_at l h2] at h3
      have h4 := hat (j % 5) u h3.symm
      have e5 : (⟨g, o' + j / 5 * 5 + j % 5, none⟩ : Addr) = (⟨g, o', none⟩ : Addr).add j := by
        by_cases h0 : j = 0
        · subst h0; rfl
        · simp [Addr.add, h0]
          omega
      rw [← e5]
      exact h4
    · intro u hu
      obtain ⟨r, hl, hul⟩ := List.mem_flatten.1 hu
      exact pcRows_one l r hl u hul
    · rcases k4 with e5 | e5
      · exact .inl e5
      · exact .inr ⟨_, e5, Nat.le_refl _⟩
end Go.Proofs.Ythhojjdccfcicaa
