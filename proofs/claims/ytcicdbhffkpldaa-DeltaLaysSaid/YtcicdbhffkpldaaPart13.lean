/- Part 13 of the words that the laws share: PcEq. No condition of its own: each theorem says its own. -/
import Derived.Test.YtcicdbhffkpldaaPart4
import Derived.Laws.StructEq

/- '==' on pieces: a struct of a string, two numbers and an id. Condition: the types are the program's. -/
namespace Go.Proofs.Ytcicdbhffkpldaa
open Go.RowKit

theorem pq_fields : Try.prog.underlying 46 = some (.struct (Try.prog.fieldsOf 46)) := by kernel_rfl
theorem pq_notstood : Try.prog.stoodInHeld 46 = false := by kernel_rfl
theorem iq_fields : Try.prog.underlying 44 = some (.struct (Try.prog.fieldsOf 44)) := by kernel_rfl
theorem iq_notstood : Try.prog.stoodInHeld 44 = false := by kernel_rfl
noncomputable def pqF (i : Nat) : Field := (Try.prog.fieldsOf 46).toList.getD i default
noncomputable def iqF (i : Nat) : Field := (Try.prog.fieldsOf 44).toList.getD i default
theorem pq_list : (Try.prog.fieldsOf 46).toList = [pqF 0, pqF 1, pqF 2, pqF 3] := by kernel_rfl
theorem iq_list : (Try.prog.fieldsOf 44).toList = [iqF 0, iqF 1] := by kernel_rfl
theorem pq_name0 : decide ((pqF 0).name = "_") = false ∧ (pqF 0).type = 9 ∧ (pqF 0).offset = 0 := ⟨by kernel_rfl, by kernel_rfl, by kernel_rfl⟩
theorem pq_name1 : decide ((pqF 1).name = "_") = false ∧ (pqF 1).type = 2 ∧ (pqF 1).offset = 1 := ⟨by kernel_rfl, by kernel_rfl, by kernel_rfl⟩
theorem pq_name2 : decide ((pqF 2).name = "_") = false ∧ (pqF 2).type = 2 ∧ (pqF 2).offset = 2 := ⟨by kernel_rfl, by kernel_rfl, by kernel_rfl⟩
theorem pq_name3 : decide ((pqF 3).name = "_") = false ∧ (pqF 3).type = 44 ∧ (pqF 3).offset = 3 := ⟨by kernel_rfl, by kernel_rfl, by kernel_rfl⟩
theorem iq_name0 : decide ((iqF 0).name = "_") = false ∧ (iqF 0).type = 38 ∧ (iqF 0).offset = 0 := ⟨by kernel_rfl, by kernel_rfl, by kernel_rfl⟩
theorem iq_name1 : decide ((iqF 1).name = "_") = false ∧ (iqF 1).type = 42 ∧ (iqF 1).offset = 1 := ⟨by kernel_rfl, by kernel_rfl, by kernel_rfl⟩
theorem pq_field {P : Program} (d : Nat) (xs ys : Array Value) (f : Field) (fs : List Field) {t o : Nat} (hf : decide (f.name = "_") = false ∧ f.type = t ∧ f.offset = o) {W : World} (u u' : Value) (b : Bool)
    (h1 : (part t xs o).run P W = .ok u W) (h2 : (part t ys o).run P W = .ok u' W) (he : (Op.equalIn (d + 1) t u u').run P W = .ok b W) :
    (Op.eqFields (d + 1) xs ys (f :: fs)).run P W = if b = true then (Op.eqFields (d + 1) xs ys fs).run P W else .ok false W := by
  obtain ⟨h3, rfl, rfl⟩ := hf
  have hn : f.name ≠ "_" := of_decide_eq_false h3
  rw [Op.eqFields, if_pos hn]
  cases b with
  | true => simp [h1, h2, he]
  | false => simp [h1, h2, he]
theorem run_equal_id (n o m q : Nat) (W : World) (d : Nat) : (Op.equalIn (d + 2) 44 (.agg #[.int .u64 (n : Int), .int .u16 (o : Int)]) (.agg #[.int .u64 (m : Int), .int .u16 (q : Int)])).run Try.prog W = .ok (decide (n = m) && decide (o = q)) W := by
  rw [run_equalIn_agg W (d + 1) 44 _ _ iq_fields iq_notstood, iq_list]
  rw [pq_field d _ _ _ _ iq_name0 (.int .u64 (n : Int)) (.int .u64 (m : Int)) (decide (n = m)) (by simp [part, isAgg, run_underlying Try.underlying38]) (by simp [part, isAgg, run_underlying Try.underlying38]) (by
    rw [run_equalIn_int W d 38 .u64 .u64 (n : Int) (m : Int) Try.underlying38]
    congr 1
    by_cases e : n = m
    · rw [e]; simp
    · rw [decide_eq_false e, beq_eq_false_iff_ne]; omega)]
  rw [pq_field d _ _ _ _ iq_name1 (.int .u16 (o : Int)) (.int .u16 (q : Int)) (decide (o = q)) (by simp [part, isAgg, run_underlying Try.underlying42]) (by simp [part, isAgg, run_underlying Try.underlying42]) (by
    rw [run_equalIn_int W d 42 .u16 .u16 (o : Int) (q : Int) Try.underlying42]
    congr 1
    by_cases e : o = q
    · rw [e]; simp
    · rw [decide_eq_false e, beq_eq_false_iff_ne]; omega)]
  cases decide (n = m) <;> cases decide (o = q) <;> rfl
theorem run_equal_pc (p q : Pc) (b : Bool) (hb : b = true ↔ p = q) (W : World) : (Op.equalIn 10000 46 (.agg p.vs.toArray) (.agg q.vs.toArray)).run Try.prog W = .ok b W := by
  obtain ⟨s, t, v, n, o⟩ := p
  obtain ⟨s', t', v', n', o'⟩ := q
  rw [run_equalIn_agg W 9999 46 _ _ pq_fields pq_notstood, pq_list]
  rw [pq_field 9998 _ _ _ _ pq_name0 (.string s) (.string s') (s.toList == s'.toList) (by simp [part, isAgg, run_underlying Try.underlying9, Pc.vs]) (by simp [part, isAgg, run_underlying Try.underlying9, Pc.vs]) (run_equalIn_string W 9998 9 s s' Try.underlying9)]
  rw [pq_field 9998 _ _ _ _ pq_name1 (.int .i64 t) (.int .i64 t') (t == t') (by simp [part, isAgg, run_underlying Try.underlying2, Pc.vs]) (by simp [part, isAgg, run_underlying Try.underlying2, Pc.vs]) (run_equalIn_int W 9998 2 .i64 .i64 t t' Try.underlying2)]
  rw [pq_field 9998 _ _ _ _ pq_name2 (.int .i64 v) (.int .i64 v') (v == v') (by simp [part, isAgg, run_underlying Try.underlying2, Pc.vs]) (by simp [part, isAgg, run_underlying Try.underlying2, Pc.vs]) (run_equalIn_int W 9998 2 .i64 .i64 v v' Try.underlying2)]
  have hpart : ∀ (s : ByteArray) (t v : Int) (n o : Nat), (part 44 (Pc.vs ⟨s, t, v, n, o⟩).toArray 3).run Try.prog W = .ok (.agg #[.int .u64 (n : Int), .int .u16 (o : Int)]) W := fun s t v n o => by
    kernel_rfl
  rw [pq_field 9998 _ _ _ _ pq_name3 _ _ (decide (n = n') && decide (o = o')) (hpart s t v n o) (hpart s' t' v' n' o') (run_equal_id n o n' o' W 9997)]
  have hs : (s.toList == s'.toList) = true ↔ s = s' := by
    rw [beq_iff_eq]
    exact ⟨str_inj, fun h => by rw [h]⟩
  have ht : (t == t') = true ↔ t = t' := beq_iff_eq
  have hv : (v == v') = true ↔ v = v' := beq_iff_eq
  have hi : (decide (n = n') && decide (o = o')) = true ↔ (n = n' ∧ o = o') := by simp
  have hpq : (⟨s, t, v, n, o⟩ : Pc) = ⟨s', t', v', n', o'⟩ ↔ (s = s' ∧ t = t' ∧ v = v' ∧ n = n' ∧ o = o') := by
    constructor
    · intro h
      injection h with h1 h2 h3 h4 h5
      exact ⟨h1, h2, h3, h4, h5⟩
    · rintro ⟨rfl, rfl, rfl, rfl, rfl⟩
      rfl
  have fin : b = false ∨ b = true := by cases b <;> simp
  by_cases h1 : s = s'
  · rw [if_pos (hs.2 h1)]
    by_cases h2 : t = t'
    · rw [if_pos (ht.2 h2)]
      by_cases h3 : v = v'
      · rw [if_pos (hv.2 h3)]
        by_cases h4 : n = n' ∧ o = o'
        · rw [if_pos (hi.2 h4), hb.2 (hpq.2 ⟨h1, h2, h3, h4⟩)]
          rfl
        · rw [if_neg fun h => h4 (hi.1 h)]
          rcases fin with h | h
          · rw [h]
          · exact absurd (hpq.1 (hb.1 h)).2.2.2 h4
      · rw [if_neg fun h => h3 (hv.1 h)]
        rcases fin with h | h
        · rw [h]
        · exact absurd (hpq.1 (hb.1 h)).2.2.1 h3
    · rw [if_neg fun h => h2 (ht.1 h)]
      rcases fin with h | h
      · rw [h]
      · exact absurd (hpq.1 (hb.1 h)).2.1 h2
  · rw [if_neg fun h => h1 (hs.1 h)]
    rcases fin with h | h
    · rw [h]
    · exact absurd (hpq.1 (hb.1 h)).1 h1
end Go.Proofs.Ytcicdbhffkpldaa
