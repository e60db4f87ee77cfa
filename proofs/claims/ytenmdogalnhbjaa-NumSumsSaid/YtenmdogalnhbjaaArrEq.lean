/- '==' on arrays of four quarters. Condition: the type is the program's. -/
import Derived.Test.YtenmdogalnhbjaaMem
namespace Go.Proofs.Ytenmdogalnhbjaa
open Go.RowKit

theorem run_equalIn_arr4 {P : Program} (w : World) (d : Nat) (t e : TypeId) (i : TypeInfo) (ht : P.underlying t = some (.array 4 e)) (he : P.underlying e = some (.int .u32)) (hi : P.info? e = some i) (hs : i.size = 1) (a0 a1 a2 a3 b0 b1 b2 b3 : Int) :
    (Op.equalIn (d + 2) t (.agg #[.int .u32 a0, .int .u32 a1, .int .u32 a2, .int .u32 a3]) (.agg #[.int .u32 b0, .int .u32 b1, .int .u32 b2, .int .u32 b3])).run P w = .ok (a0 == b0 && (a1 == b1 && (a2 == b2 && a3 == b3))) w := by
  have h : ∀ a b, (Op.equalIn (d + 1) e (.int .u32 a) (.int .u32 b)).run P w = .ok (a == b) w := fun a b => run_equalIn_int w d e .u32 .u32 a b he
  have hp : ∀ (xs : Array Value) (n : Nat) (v : Value), xs[n]? = some v → (part e xs n).run P w = .ok v w := by
    intro xs n v hv
    simp [part, isAgg, run_underlying he, hv]
  have hr : List.range' 0 4 = [0, 1, 2, 3] := rfl
  have p0 := hp #[.int .u32 a0, .int .u32 a1, .int .u32 a2, .int .u32 a3] 0 (.int .u32 a0) rfl
  have p1 := hp #[.int .u32 a0, .int .u32 a1, .int .u32 a2, .int .u32 a3] 1 (.int .u32 a1) rfl
  have p2 := hp #[.int .u32 a0, .int .u32 a1, .int .u32 a2, .int .u32 a3] 2 (.int .u32 a2) rfl
  have p3 := hp #[.int .u32 a0, .int .u32 a1, .int .u32 a2, .int .u32 a3] 3 (.int .u32 a3) rfl
  have q0 := hp #[.int .u32 b0, .int .u32 b1, .int .u32 b2, .int .u32 b3] 0 (.int .u32 b0) rfl
  have q1 := hp #[.int .u32 b0, .int .u32 b1, .int .u32 b2, .int .u32 b3] 1 (.int .u32 b1) rfl
  have q2 := hp #[.int .u32 b0, .int .u32 b1, .int .u32 b2, .int .u32 b3] 2 (.int .u32 b2) rfl
  have q3 := hp #[.int .u32 b0, .int .u32 b1, .int .u32 b2, .int .u32 b3] 3 (.int .u32 b3) rfl
  have h0 := h a0 b0
  have h1 := h a1 b1
  have h2 := h a2 b2
  have h3 := h a3 b3
  clear h hp
  rw [Op.equalIn]
  simp only [Sem.run_bind, run_underlying ht, Result.andThen_ok, sizeOf, typeInfo, run_program, hi, Sem.run_pure, hs, Nat.mul_one, Std.Legacy.Range.forIn_eq_forIn_range', Std.Legacy.Range.size]
  simp only [hr, List.forIn_cons, List.forIn_nil, Sem.run_bind, Nat.sub_zero, Nat.add_sub_cancel, Nat.div_one]
  obtain ⟨e0, f0⟩ : ∃ e, e = (a0 == b0) := ⟨_, rfl⟩
  rw [← f0] at h0 ⊢
  clear f0
  obtain ⟨e1, f1⟩ : ∃ e, e = (a1 == b1) := ⟨_, rfl⟩
  rw [← f1] at h1 ⊢
  clear f1
  obtain ⟨e2, f2⟩ : ∃ e, e = (a2 == b2) := ⟨_, rfl⟩
  rw [← f2] at h2 ⊢
  clear f2
  obtain ⟨e3, f3⟩ : ∃ e, e = (a3 == b3) := ⟨_, rfl⟩
  rw [← f3] at h3 ⊢
  clear f3
  cases e0 <;> cases e1 <;> cases e2 <;> cases e3 <;> simp [p0, p1, p2, p3, q0, q1, q2, q3, h0, h1, h2, h3]
end Go.Proofs.Ytenmdogalnhbjaa
