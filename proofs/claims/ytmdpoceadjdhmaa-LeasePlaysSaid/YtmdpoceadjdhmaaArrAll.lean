/- '==' on arrays of integers, of any length. Condition: the type is the program's. -/
import Derived.Test.YtmdpoceadjdhmaaMem
namespace Go.Proofs.Ytmdpoceadjdhmaa
open Go.RowKit

theorem run_equalIn_arr {P : Program} (w : World) (d : Nat) (t e : TypeId) (n : Nat) (i : TypeInfo) (k k' : IntKind) (ht : P.underlying t = some (.array n e)) (he : P.underlying e = some (.int k')) (hi : P.info? e = some i) (hs : i.size = 1) (xs ys : List Int) (hx : xs.length = n) (hy : ys.length = n) :
    (Op.equalIn (d + 2) t (.agg (xs.map (Value.int k)).toArray) (.agg (ys.map (Value.int k)).toArray)).run P w = .ok (decide (xs = ys)) w := by
  have h : ∀ a b, (Op.equalIn (d + 1) e (.int k a) (.int k b)).run P w = .ok (a == b) w := fun a b => run_equalIn_int w d e k k' a b he
  have hp : ∀ (zs : List Int) (m : Nat) (z : Int), zs[m]? = some z → (part e (zs.map (Value.int k)).toArray m).run P w = .ok (.int k z) w := by
    intro zs m z hz
    simp [part, isAgg, run_underlying he, hz]
  rw [Op.equalIn]
  simp only [Sem.run_bind, run_underlying ht, Result.andThen_ok, sizeOf, typeInfo, run_program, hi, Sem.run_pure, hs, Nat.mul_one, Std.Legacy.Range.forIn_eq_forIn_range', Std.Legacy.Range.size, Nat.sub_zero, Nat.add_sub_cancel, Nat.div_one]
  have key : ∀ m s, s + m = n → (Sem.run P (forIn (List.range' s m) ((none : Option Bool), ()) fun i __s => do
            let __do_lift ← part e (List.map (Value.int k) xs).toArray i
            let __do_lift_1 ← part e (List.map (Value.int k) ys).toArray i
            let __do_lift ← Op.equalIn (d + 1) e __do_lift __do_lift_1
            if (!__do_lift) = true then pure (ForInStep.done (some false, ())) else pure (ForInStep.yield (none, ()))) w) = .ok (if xs.drop s = ys.drop s then (none, ()) else (some false, ())) w := by
    intro m
    induction m with
    | zero =>
      intro s hsn
      have e1 : xs.drop s = [] := List.drop_of_length_le (by omega)
      have e2 : ys.drop s = [] := List.drop_of_length_le (by omega)
      simp [e1, e2]
    | succ m ih =>
      intro s hsn
      have x1 : s < xs.length := by omega
      have y1 : s < ys.length := by omega
      have px := hp xs s xs[s] (List.getElem?_eq_getElem x1)
      have py := hp ys s ys[s] (List.getElem?_eq_getElem y1)
      rw [List.range'_succ]
      simp only [List.forIn_cons, Sem.run_bind, px, py, Result.andThen_ok, h]
      by_cases hxy : xs[s] = ys[s]
      · have hb : (xs[s] == ys[s]) = true := by rw [hxy]; simp
        rw [hb]
        simp only [Bool.not_true, Bool.false_eq_true, if_false, Sem.run_pure, Result.andThen_ok]
        have e : (xs.drop s = ys.drop s) = (xs.drop (s + 1) = ys.drop (s + 1)) := by
          rw [List.drop_eq_getElem_cons x1, List.drop_eq_getElem_cons y1, hxy]
          simp only [List.cons.injEq, true_and]
        rw [ih (s + 1) (by omega)]
        simp only [e]
      · have hb : (xs[s] == ys[s]) = false := by simpa using hxy
        rw [hb]
        have e : ¬ xs.drop s = ys.drop s := by
          rw [List.drop_eq_getElem_cons x1, List.drop_eq_getElem_cons y1]
          simp only [List.cons.injEq, not_and]
          exact fun h => absurd h hxy
        rw [if_neg e]
        simp
  rw [key n 0 (by omega)]
  simp only [List.drop_zero]
  by_cases hxy : xs = ys
  · simp [hxy]
  · simp [hxy]
/-- The arrays of bytes. -/
theorem run_equal_bytes {P : Program} (w : World) (t e : TypeId) (n : Nat) (i : TypeInfo) (ht : P.underlying t = some (.array n e)) (he : P.underlying e = some (.int .u8)) (hi : P.info? e = some i) (hs : i.size = 1) (xs ys : List UInt8) (hx : xs.length = n) (hy : ys.length = n) :
    (Op.equal t (.agg (xs.map bv).toArray) (.agg (ys.map bv).toArray)).run P w = .ok (decide (xs = ys)) w := by
  have h := run_equalIn_arr w 9998 t e n i .u8 .u8 ht he hi hs (xs.map fun b => (b.toNat : Int)) (ys.map fun b => (b.toNat : Int)) (by simpa using hx) (by simpa using hy)
  rw [List.map_map, List.map_map] at h
  have e1 : decide (List.map (fun b : UInt8 => (b.toNat : Int)) xs = List.map (fun b : UInt8 => (b.toNat : Int)) ys) = decide (xs = ys) := by
    congr 1
    apply propext
    refine ⟨fun h => ?_, fun h => by rw [h]⟩
    exact (List.map_inj_right fun a b hab => UInt8.toNat_inj.1 (by omega)).1 h
  rw [e1] at h
  exact h
end Go.Proofs.Ytmdpoceadjdhmaa
