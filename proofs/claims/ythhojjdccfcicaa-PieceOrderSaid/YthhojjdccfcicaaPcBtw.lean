/- The developers' Between: those between two times. Conditions: a row of at most a thousand pieces. -/
import Derived.Test.YthhojjdccfcicaaPcApp
import Derived.Test.YthhojjdccfcicaaHere
import Derived.Deep.Cut
namespace Go.Proofs.Ythhojjdccfcicaa
open Go.RowKit

theorem infB : (Try.prog.info? 27).map (fun i => (i.zero, i.size, i.bytes)) = some (some (.agg #[.string ByteArray.empty, .int .i64 0, .int .i64 0, .int .u64 0, .int .u16 0]), 5, 48) := by kernel_rfl
/-- Under way. -/
structure BtAt (w : World) (ps : List Pc) (a b : Int) (u : Value) (j : Nat) (wx : World) : Prop where
  own : OwnR 5 wx w.heap.size 27 u (pcRows (betweenP (ps.take j) a b))
  below : Below w.heap.size w wx
theorem bt_next {ps : List Pc} {a b : Int} {j : Nat} {p : Pc} (h : ps[j]? = some p) : betweenP (ps.take (j + 1)) a b = betweenP (ps.take j) a b ++ if a ≤ p.t ∧ p.t ≤ b then [p] else [] := by
  unfold betweenP
  rw [List.take_add_one, h, List.filter_append]
  congr 1
  by_cases e : a ≤ p.t ∧ p.t ≤ b
  · rw [if_pos e]
    simp [e]
  · rw [if_neg e]
    simp
    omega
theorem bt_len (ps : List Pc) (a b : Int) (j : Nat) (h : ps.length ≤ 1000) : (betweenP (ps.take j) a b).length ≤ 1000 := by
  unfold betweenP
  have h1 := List.length_filter_le (fun p : Pc => decide (a ≤ p.t) && decide (p.t ≤ b)) (ps.take j)
  rw [List.length_take] at h1
  omega
theorem pcRows_snoc (l : List Pc) (p : Pc) : pcRows (l ++ [p]) = pcRows l ++ [p.vs] := by unfold pcRows; rw [List.map_append]; rfl
set_option maxRecDepth 100000 in
set_option maxHeartbeats 4000000 in
theorem betweenP_any (v : Value) (ps : List Pc) (a b : Int) (w : World) (h : RsP w v ps) (hlen : ps.length ≤ 1000) :
    Calls Try.prog 15 #[v, .int .i64 a, .int .i64 b] w fun e w' => ∃ u, e = .returned u ∧ RsP w' u (betweenP ps a b) ∧ Below w.heap.size w w' := by
  obtain ⟨ipc, hip, hipz, hips, hipb⟩ := inf_of infB
  obtain ⟨A, c, rfl, hm⟩ := h.form
  have HR := Lib.hid h
  have HLEN := Lib.hid hlen
  unfold maxLen at hm
  have pI : (ps.length : Int) ≤ 9223372036854775807 := by omega
  clear h hlen hm
  go_enter Try.func15, Try.ntmps15
  go_wp2_with (fail)
  go_loopw [7, 12] (fun u x wx => ∃ j : Nat, x = .int .i64 (j : Int) ∧ j ≤ ps.length ∧ BtAt w ps a b u j wx) (fun _ x _ => ps.length - (intOf x).toNat)
  case atStart =>
    exact ⟨0, rfl, Nat.zero_le _, ⟨OwnR.nil _ _ _ _, Below.refl _ _⟩⟩
  case round =>
    obtain ⟨j, rfl, hj, hB⟩ := hrel
    have HB := Lib.hid hB
    by_cases hlt : j < ps.length
    · have jI : (j : Int) < ps.length := by omega
      have HLT := Lib.hid hlt
      obtain ⟨p, hp⟩ : ∃ p, ps[j]? = some p := ⟨_, List.getElem?_eq_getElem hlt⟩
      obtain ⟨g, o, rfl, hg, hr, hok⟩ := (HR.out.below hB.below).at2 hp
      obtain ⟨k0, k1, k2, k3, k4⟩ := range5 hr
      obtain ⟨W1, hW1⟩ : ∃ V, V = wr.alloc (.cells #[.string p.s, .int .i64 p.t, .int .i64 p.v, .int .u64 (p.n : Int), .int .u16 (p.o : Int)] 27) := ⟨_, rfl⟩
      have B1 : Hid (BtAt w ps a b u7 j W1) := Lib.hid (by rw [hW1]; exact ⟨⟨hB.own.1, hB.own.2.alloc _⟩, hB.below.alloc hB.below.size _⟩)
      have c1 : W1.cell? ⟨wr.heap.size, 1, none⟩ = some (.int .i64 p.t) := by rw [hW1, World.cell?_alloc_new]; rfl
      have q0 : W1.cell? ⟨wr.heap.size, 0, none⟩ = some (.string p.s) := by rw [hW1, World.cell?_alloc_new]; rfl
      have q2 : W1.cell? ⟨wr.heap.size, 2, none⟩ = some (.int .i64 p.v) := by rw [hW1, World.cell?_alloc_new]; rfl
      have q3 : W1.cell? ⟨wr.heap.size, 3, none⟩ = some (.int .u64 (p.n : Int)) := by rw [hW1, World.cell?_alloc_new]; rfl
      have q4 : W1.cell? ⟨wr.heap.size, 4, none⟩ = some (.int .u16 (p.o : Int)) := by rw [hW1, World.cell?_alloc_new]; rfl
      have HP := Lib.hid hp
      have HN := Lib.hid (bt_next (a := a) (b := b) hp)
      have hbl := bt_len ps a b j HLEN.out
      have hu1 : (pcRows (betweenP (ps.take j) a b)).length + 1 ≤ maxLen := by rw [pcRows_len]; unfold maxLen; omega
      have hu2 : ((pcRows (betweenP (ps.take j) a b)).length + 1) * 48 ≤ 140737488355328 := by rw [pcRows_len]; omega
      have HU1 := Lib.hid hu1
      have HU2 := Lib.hid hu2
      clear hr hok hg hp hlt hj hB hbl hu1 hu2
      go_upto_region 5 with (fail)
      rw [← hW1]
      clear hW1 k0 k1 k2 k3 k4
      by_cases h1 : a ≤ p.t
      · have g1 : decide (a ≤ p.t) = true := decide_eq_true h1
        by_cases h2 : p.t ≤ b
        · have g2 : decide (p.t ≤ b) = true := decide_eq_true h2
          have HN2 : Hid (betweenP (ps.take (j + 1)) a b = betweenP (ps.take j) a b ++ [p]) := Lib.hid (by rw [HN.out, if_pos ⟨h1, h2⟩])
          clear h1 h2 HN
          go_wp2_with (at_builtin
                       refine wpList_append_elR W1 [.string p.s, .int .i64 p.t, .int .i64 p.v, .int .u64 (p.n : Int), .int .u16 (p.o : Int)] 27 rfl _ _ _ rfl w.heap.size 27 ipc _ 5 48 Try.underlying34 hip hipz hips hipb rfl (by decide) u7 _ rfl B1.out.own rfl (by intro u hu; simp only [List.mem_cons, List.not_mem_nil, or_false] at hu; rcases hu with rfl | rfl | rfl | rfl | rfl <;> rfl) rfl HU1.out HU2.out B1.out.below.size ?_
                       intro u2 w2 own2 nx2
                       have B2 : Hid (BtAt w ps a b u2 (j + 1) w2) := Lib.hid ⟨by rw [HN2.out, pcRows_snoc]; exact own2, B1.out.below.trans nx2.below⟩
                       clear own2 nx2
                       go_frame)
          have hlt := HLT.out
          refine ⟨⟨j + 1, by go_num, by omega, B2.out⟩, by simp [intOf]; omega⟩
        · have g2 : decide (p.t ≤ b) = false := decide_eq_false h2
          have HN2 : Hid (betweenP (ps.take (j + 1)) a b = betweenP (ps.take j) a b) := Lib.hid (by rw [HN.out, if_neg fun h => h2 h.2, List.append_nil])
          clear h1 h2 HN
          go_wp2_with (fail)
          have hlt := HLT.out
          refine ⟨⟨j + 1, by go_num, by omega, ⟨by rw [HN2.out]; exact B1.out.own, B1.out.below⟩⟩, by simp [intOf]; omega⟩
      · have g1 : decide (a ≤ p.t) = false := decide_eq_false h1
        have HN2 : Hid (betweenP (ps.take (j + 1)) a b = betweenP (ps.take j) a b) := Lib.hid (by rw [HN.out, if_neg fun h => h1 h.1, List.append_nil])
        clear h1 HN
        go_wp2_with (fail)
        have hlt := HLT.out
        refine ⟨⟨j + 1, by go_num, by omega, ⟨by rw [HN2.out]; exact B1.out.own, B1.out.below⟩⟩, by simp [intOf]; omega⟩
    · obtain rfl : j = ps.length := by omega
      clear hlt hj hB
      go_wp2_with (fail)
      go_ret
      have h1 := HB.out.own
      rw [List.take_length] at h1
      have h2 := bt_len ps a b ps.length HLEN.out
      rw [List.take_length] at h2
      exact ⟨_, rfl, ownR_rsp h1 (fun q hq => HR.out.ok q (List.mem_filter.1 hq).1) (by unfold maxLen; omega), HB.out.below⟩
end Go.Proofs.Ythhojjdccfcicaa
