/- Laws of append onto one of two rows of the call's own: the other one stays. No condition of its own. -/
import Derived.Test.YtckgpocfcanokaaKept
import Derived.Maps.AppendAt
namespace Go.Proofs.Ytckgpocfcanokaa
open Go.RowKit

/-- Two values don't lie in one block. -/
def Apart2 (u v : Value) : Prop := ∀ k, u.ownBlock = some k → v.ownBlock ≠ some k
theorem Apart2.symm {u v : Value} (h : Apart2 u v) : Apart2 v u := fun k hk hu => h k hu hk
theorem Apart2.nil (v : Value) : Apart2 (.slice none 0 0) v := fun k hk => by cases hk
theorem Apart2.kept {w w' : World} {base n : Nat} {t : TypeId} {u v : Value} {ys : List Value} (h : Apart2 u v) (hu : w.ownsRow base t 1 u n ys) (hg : w.grownBy w' v.ownBlock) : w'.ownsRow base t 1 u n ys := by
  refine hu.kept hg ?_
  cases hb : u.ownBlock with
  | none => exact .inl rfl
  | some k => exact .inr (fun e => h k hb (by rw [← e]))
theorem apart_new {w : World} {base n : Nat} {t : TypeId} {u v v' : Value} {ys : List Value} (h : Apart2 u v) (hu : w.ownsRow base t 1 u n ys) (hv : v'.ownBlock = v.ownBlock ∨ ∃ k, v'.ownBlock = some k ∧ w.heap.size ≤ k) : Apart2 u v' := fun k hk hk' => by
  rcases hv with e | ⟨j, e, hj⟩
  · exact h k hk (by rw [← e]; exact hk')
  · rw [e] at hk'
    have := (hu.lt k hk).2
    have e2 : j = k := by simpa using hk'
    omega
/-- append of one element, which lies in a new block of its own, onto a row of the call's own; another own row stays. -/
theorem wpList_append_one_two {P : Program} (w : World) (x : Value) (e0 : TypeId) {ops : Array Oper} {rest : List Oper} {o : Oper} {a : Act} {Q : Exit → Act → World → Prop} (hgd : o.guard = none) (s y : Operand) (t : TypeId)
    (ho : o.op = .call { callee := .builtin .append, args := #[s, y], argTypes := #[t, t] })
    (base : Nat) (e : TypeId) (i : TypeInfo) (z : Value) (bytes : Nat) (ht : P.underlying t = some (.slice e)) (hi : P.info? e = some i) (hz : i.zero = some z)
    (hsize : i.size = 1) (hby : i.bytes = bytes) (hzs : z.cells.size = 1) (hu : x.oneCell' = true)
    (v : Value) (n : Nat) (xs : List Value) (hs : a.eval s = v) (hown : w.ownsRow base e 1 v n xs)
    (u : Value) (m : Nat) (ys : List Value) (hother : w.ownsRow base e 1 u m ys) (hap : Apart2 u v)
    (hx : a.eval y = .slice (some ⟨w.heap.size, 0, none⟩) 1 1)
    (h63 : n + 1 ≤ maxLen) (hb : (n + 1) * bytes ≤ 140737488355328) (hbase : base ≤ w.heap.size)
    (h : ∀ v' w', w'.ownsRow base e 1 v' (n + 1) (xs ++ [x]) → w'.ownsRow base e 1 u m ys → Apart2 u v' → Below base w w' → wpList P ops Q rest (a.put o.dst v') w') : wpList P ops Q (o :: rest) a (w.alloc (.cells #[x] e0)) := by
  refine wpList_plain hgd fun K hK => ?_
  obtain ⟨v', w', hr, h2, h3, _, h5⟩ := run_append_own_at (P := P) (w.alloc (.cells #[x] e0)) base t o.type e i z 1 bytes ht hi hz hsize hby hzs (by omega) v n xs (hown.alloc _) ⟨w.heap.size, 0, none⟩ 1 1 [x] rfl (World.news_of_block (cs := #[x]) (t := e0) (fr := (0, 0)) (heap_alloc_new w _)) (by simpa using hu) h63 hb (by simp; omega)
  unfold Oper.wp execOp
  simp only [ho, resolve, invoke, builtin, Sem.run_bind, Sem.run_pure, Result.andThen_ok, List.map_toArray, List.map_cons, List.map_nil, hs, hx, hr]
  refine hK _ _ (h v' w' h2 (hap.kept (hother.alloc _) h3) (apart_new hap hother ?_) (((Below.refl _ _).alloc hbase _).grown h3 (by simp; omega) (fun k hk => (hown.lt k hk).1)))
  rcases h5 with e5 | e5
  · exact .inl e5
  · exact .inr ⟨_, e5, by simp⟩
end Go.Proofs.Ytckgpocfcanokaa
