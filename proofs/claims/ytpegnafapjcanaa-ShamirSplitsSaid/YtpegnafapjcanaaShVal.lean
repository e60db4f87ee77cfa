/- Shares as values: what a variable holds ahead of all, and what is put together of a place and of bytes. Condition: the types are the program's. -/
import Derived.Test.YtpegnafapjcanaaRfl
import Derived.Laws.Tables
namespace Go.Proofs.Ytpegnafapjcanaa
open Go.RowKit

def zeros33 : List UInt8 := List.replicate 33 0
theorem info_share : (Try.prog.info? 31).map (fun i => (i.zero, i.size, i.bytes)) = some (some (.agg (zeros33.map bv).toArray), 33, 33) := by kernel_rfl
theorem info_key : (Try.prog.info? 23).map (fun i => (i.zero, i.size, i.bytes)) = some (some (.agg ((List.replicate 32 (0 : UInt8)).map bv).toArray), 32, 32) := by kernel_rfl
theorem info_of {P : Program} {t : TypeId} {z : Value} {n m : Nat} (h : (P.info? t).map (fun i => (i.zero, i.size, i.bytes)) = some (some z, n, m)) : ∃ i, P.info? t = some i ∧ i.zero = some z ∧ i.size = n ∧ i.bytes = m := by
  cases hi : P.info? t with
  | none => rw [hi] at h; cases h
  | some i => rw [hi] at h; simp at h; exact ⟨i, rfl, h.1, h.2.1, h.2.2⟩
theorem zero_of {P : Program} {t : TypeId} {z : Value} {n m : Nat} (h : (P.info? t).map (fun i => (i.zero, i.size, i.bytes)) = some (some z, n, m)) : (P.info? t).bind (·.zero) = some z := by
  obtain ⟨i, hi, hz, _⟩ := info_of h
  rw [hi]
  exact hz
theorem size_of {P : Program} {t : TypeId} {z : Value} {n m : Nat} (h : (P.info? t).map (fun i => (i.zero, i.size, i.bytes)) = some (some z, n, m)) : (P.info? t).map (·.size) = some n := by
  obtain ⟨i, hi, _, hs, _⟩ := info_of h
  rw [hi, ← hs]
  rfl
/-- A variable of a type whose zero value is an array, or a struct. -/
theorem wpList_alloc_z {P : Program} {ops : Array Oper} {rest : List Oper} {o : Oper} {a : Act} {w : World} {Q : Exit → Act → World → Prop} (hgd : o.guard = none) (t : TypeId) (ho : o.op = .alloc t) (cs : Array Value)
    (hz : (P.info? t).bind (·.zero) = some (.agg cs)) (N : Nat) (hN : w.heap.size = N)
    (h : wpList P ops Q rest (a.put o.dst (.pointer (some ⟨N, 0, none⟩))) (w.alloc (.cells cs t))) : wpList P ops Q (o :: rest) a w := by
  subst hN
  refine wpList_plain hgd fun K hK => ?_
  have hrun : (zeroValue t).run P w = .ok (.agg cs) w := by
    cases hi : P.info? t with
    | none => rw [hi] at hz; cases hz
    | some i =>
      rw [hi] at hz
      have hz : i.zero = some (.agg cs) := hz
      simp [zeroValue, typeInfo, hi, hz]
  unfold Oper.wp
  simp [execOp, ho, Instr.alloc, hrun, Result.andThen]
  exact hK _ _ h
/-- What is put together of parts, said by the caller. -/
theorem wpList_build_is {P : Program} {ops : Array Oper} {rest : List Oper} {o : Oper} {a : Act} {w : World} {Q : Exit → Act → World → Prop} (hg : o.guard = none) (t : TypeId) (parts : Array (Nat × Operand)) (ho : o.op = .build t parts) (ps : List (Nat × Value)) (hp : (parts.toList.map fun p => (p.1, a.eval p.2)) = ps) (cells : Array Value)
    (hf : P.built t ps = some cells)
    (h : wpList P ops Q rest (a.put o.dst (.agg cells)) w) : wpList P ops Q (o :: rest) a w := by
  have e : (parts.map fun (i, x) => (i, a.eval x)).toList = ps := by
    rw [Array.toList_map]
    exact hp
  refine wpList_build hg t parts ho (by rw [e, hf]; rfl) ?_
  rw [e, hf]
  exact h
theorem fill_one {place : Nat → Option (Nat × Nat)} {cells : Array Value} {i off n : Nat} {v : Value} {rest : List (Nat × Value)} (hp : place i = some (off, n)) (hv : v.cells.size = n) (hf : off + n ≤ cells.size) :
    Instr.fill place cells ((i, v) :: rest) = Instr.fill place ((v.cells.toList.zipIdx 0).foldl (fun cs (x : Value × Nat) => cs.setIfInBounds (off + x.2) x.1) cells) rest := by
  rw [Instr.fill, hp]
  simp only [hv]
  rw [if_neg (by simp; omega), ← Array.foldl_toList, Array.toList_zipIdx]
noncomputable def sharePlaces : List (Nat × Nat) := [(0, 1), (1, 32)]
theorem share_places : ((Try.prog.underlying 31).bind fun d => match d with | .struct fs => fs.toList.mapM (fun f => (Try.prog.info? f.type).map fun i => (f.offset, i.size)) | _ => none) = some sharePlaces := by kernel_rfl
theorem share_built (parts : List (Nat × Value)) : Try.prog.built 31 parts = Instr.fill (sharePlaces.toArray[·]?) (zeros33.map bv).toArray parts := by
  obtain ⟨i, hi, hz, _, _⟩ := info_of info_share
  have hp := share_places
  unfold Program.built
  cases hu : Try.prog.underlying 31 with
  | none => rw [hu] at hp; cases hp
  | some d =>
    rw [hu] at hp
    cases d with
    | struct fs =>
      have hp : fs.toList.mapM (fun f => (Try.prog.info? f.type).map fun i => (f.offset, i.size)) = some sharePlaces := hp
      rw [hi]
      simp only [hz, hp]
      rfl
    | _ => cases hp
theorem set_x (x : UInt8) (zs : List UInt8) : (((bv x).cells.toList.zipIdx 0).foldl (fun cs (y : Value × Nat) => cs.setIfInBounds (0 + y.2) y.1) ((0 :: zs).map bv).toArray) = ((x :: zs).map bv).toArray := by
  simp [Value.cells, bv]
theorem share_built1 (x : UInt8) : Try.prog.built 31 [(0, bv x)] = some ((x :: List.replicate 32 (0 : UInt8)).map bv).toArray := by
  rw [share_built, fill_one (off := 0) (n := 1) rfl rfl (by simp [zeros33])]
  show some _ = _
  exact congrArg some (set_x x (List.replicate 32 0))
theorem share_built2 (x : UInt8) (ys : List UInt8) (hy : ys.length = 32) : Try.prog.built 31 [(0, bv x), (1, .agg (ys.map bv).toArray)] = some ((x :: ys).map bv).toArray := by
  rw [share_built, fill_one (off := 0) (n := 1) rfl rfl (by simp [zeros33])]
  have e1 : (((bv x).cells.toList.zipIdx 0).foldl (fun cs (y : Value × Nat) => cs.setIfInBounds (0 + y.2) y.1) (zeros33.map bv).toArray) = ((x :: List.replicate 32 (0 : UInt8)).map bv).toArray := set_x x (List.replicate 32 0)
  rw [e1, fill_one (off := 1) (n := 32) rfl (by simp [Value.cells, hy]) (by simp)]
  obtain ⟨g1, g2⟩ := Great.foldl_set 1 (Value.agg (ys.map bv).toArray).cells.toList 0 ((x :: List.replicate 32 (0 : UInt8)).map bv).toArray
  show some _ = _
  congr 1
  apply Array.ext_getElem?
  intro k
  rw [g2 k]
  simp only [Value.cells, List.length_map, hy]
  cases k with
  | zero => simp
  | succ k =>
    by_cases h : k < 32
    · rw [if_pos (by simp; omega)]
      simp
    · rw [if_neg (by simp; omega), Array.getElem?_eq_none (by simp; omega), Array.getElem?_eq_none (by simp; omega)]
end Go.Proofs.Ytpegnafapjcanaa
