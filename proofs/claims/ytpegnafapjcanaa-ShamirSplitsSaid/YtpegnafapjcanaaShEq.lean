/- '==' on shares: a struct of a byte and an array of bytes. Condition: the types are the program's. -/
import Derived.Test.YtpegnafapjcanaaArrAll
import Derived.Laws.StructEq
namespace Go.Proofs.Ytpegnafapjcanaa
open Go.RowKit

/-- A key's '==', at any depth. -/
theorem run_equalIn_key (d : Nat) (xs ys : List UInt8) (hx : xs.length = 32) (hy : ys.length = 32) (W : World) : (Op.equalIn (d + 2) 23 (.agg (xs.map bv).toArray) (.agg (ys.map bv).toArray)).run Try.prog W = .ok (decide (xs = ys)) W := by
  obtain ⟨i0, hi, hz1⟩ : ∃ i, Try.prog.info? 5 = some i ∧ i.size = 1 := by
    have h := info_u8
    cases hi : Try.prog.info? 5 with
    | none => rw [hi] at h; cases h
    | some i => rw [hi] at h; simp at h; exact ⟨i, rfl, h.2.1⟩
  have h := run_equalIn_arr W d 23 5 32 i0 .u8 .u8 Try.underlying23 Try.underlying5 hi hz1 (xs.map fun b => (b.toNat : Int)) (ys.map fun b => (b.toNat : Int)) (by simpa using hx) (by simpa using hy)
  rw [List.map_map, List.map_map] at h
  have e1 : decide (List.map (fun b : UInt8 => (b.toNat : Int)) xs = List.map (fun b : UInt8 => (b.toNat : Int)) ys) = decide (xs = ys) := by
    congr 1
    apply propext
    refine ⟨fun h => ?_, fun h => by rw [h]⟩
    exact (List.map_inj_right fun a b hab => UInt8.toNat_inj.1 (by omega)).1 h
  rw [e1] at h
  exact h
theorem part_x (z : UInt8) (zs : List UInt8) (W : World) : (part 5 (bv z :: zs.map bv).toArray 0).run Try.prog W = .ok (bv z) W := by
  simp [part, isAgg, run_underlying Try.underlying5]
theorem part_y (z : UInt8) (zs : List UInt8) (hz : zs.length = 32) (W : World) : (part 23 (bv z :: zs.map bv).toArray 1).run Try.prog W = .ok (.agg (zs.map bv).toArray) W := by
  simp [part, isAgg, run_underlying Try.underlying23]
  rw [List.take_of_length_le (by simp [hz])]
theorem run_equalIn_byte (d : Nat) (x y : UInt8) (W : World) : (Op.equalIn (d + 1) 5 (bv x) (bv y)).run Try.prog W = .ok (decide (x = y)) W := by
  unfold bv
  rw [run_equalIn_int W d 5 .u8 .u8 _ _ Try.underlying5]
  congr 1
  rw [Bool.eq_iff_iff, beq_iff_eq, decide_eq_true_iff]
  exact ⟨fun h => UInt8.toNat_inj.1 (by omega), fun h => by rw [h]⟩
theorem share_fields : Try.prog.underlying 31 = some (.struct (Try.prog.fieldsOf 31)) := by kernel_rfl
theorem share_notstood : Try.prog.stoodInHeld 31 = false := by kernel_rfl
noncomputable def shareF (i : Nat) : Field := (Try.prog.fieldsOf 31).toList.getD i default
theorem share_list : (Try.prog.fieldsOf 31).toList = [shareF 0, shareF 1] := by kernel_rfl
theorem share_name0 : decide ((shareF 0).name = "_") = false ∧ (shareF 0).type = 5 ∧ (shareF 0).offset = 0 := ⟨by kernel_rfl, by kernel_rfl, by kernel_rfl⟩
theorem share_name1 : decide ((shareF 1).name = "_") = false ∧ (shareF 1).type = 23 ∧ (shareF 1).offset = 1 := ⟨by kernel_rfl, by kernel_rfl, by kernel_rfl⟩
theorem run_eqFields_one {P : Program} (d : Nat) (xs ys : Array Value) (f : Field) (fs : List Field) {t o : Nat} (hf : decide (f.name = "_") = false ∧ f.type = t ∧ f.offset = o) {W : World} (u v : Value)
    (hu : (part t xs o).run P W = .ok u W) (hv : (part t ys o).run P W = .ok v W) (b : Bool) (hb : (Op.equalIn d t u v).run P W = .ok b W) :
    (Op.eqFields d xs ys (f :: fs)).run P W = if b = true then (Op.eqFields d xs ys fs).run P W else .ok false W := by
  obtain ⟨h1, rfl, rfl⟩ := hf
  have hn : f.name ≠ "_" := of_decide_eq_false h1
  rw [Op.eqFields, if_pos hn]
  cases b <;> simp [hu, hv, hb]
theorem run_equalIn_share_d (d : Nat) (x y : UInt8) (xs ys : List UInt8) (hx : xs.length = 32) (hy : ys.length = 32) (W : World) : (Op.equalIn (d + 3) 31 (.agg (bv x :: xs.map bv).toArray) (.agg (bv y :: ys.map bv).toArray)).run Try.prog W = .ok (decide (x = y ∧ xs = ys)) W := by
  have hk := run_equalIn_key d xs ys hx hy W
  have q1 := run_equalIn_byte (d + 1) x y W
  have p1 := part_x x xs W
  have p2 := part_x y ys W
  have p3 := part_y x xs hx W
  have p4 := part_y y ys hy W
  rw [run_equalIn_agg W (d + 2) 31 _ _ share_fields share_notstood]
  rw [share_list]
  rw [run_eqFields_one _ _ _ _ _ share_name0 _ _ p1 p2 _ q1]
  by_cases h1 : x = y
  · rw [if_pos (decide_eq_true h1), run_eqFields_one _ _ _ _ _ share_name1 _ _ p3 p4 _ hk]
    by_cases h2 : xs = ys
    · rw [if_pos (decide_eq_true h2), decide_eq_true (show x = y ∧ xs = ys from ⟨h1, h2⟩)]
      rfl
    · rw [if_neg (by rw [decide_eq_false h2]; decide), decide_eq_false (show ¬ (x = y ∧ xs = ys) from fun h => h2 h.2)]
  · rw [if_neg (by rw [decide_eq_false h1]; decide), decide_eq_false (show ¬ (x = y ∧ xs = ys) from fun h => h1 h.1)]
theorem run_equalIn_share (xs ys : List UInt8) (hx : xs.length = 33) (hy : ys.length = 33) (W : World) : (Op.equalIn 10000 31 (.agg (xs.map bv).toArray) (.agg (ys.map bv).toArray)).run Try.prog W = .ok (decide (xs = ys)) W := by
  match xs, ys, hx, hy with
  | x :: xs, y :: ys, hx, hy =>
    have h := run_equalIn_share_d 9997 x y xs ys (by simpa using hx) (by simpa using hy) W
    have e : decide (x :: xs = y :: ys) = decide (x = y ∧ xs = ys) := by
      by_cases h1 : x = y <;> by_cases h2 : xs = ys <;> simp [h1, h2]
    rw [e]
    exact h
end Go.Proofs.Ytpegnafapjcanaa
