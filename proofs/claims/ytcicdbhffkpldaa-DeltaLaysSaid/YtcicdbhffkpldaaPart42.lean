/- Part 42 of the words that the laws share: DtRead, DeltaK. No condition of its own: each theorem says its own. -/
import Derived.Test.YtcicdbhffkpldaaPart28
import Derived.Test.YtcicdbhffkpldaaPart41
import Derived.Test.YtcicdbhffkpldaaPart5

/- The developers' Read. Conditions: at most 100000 bytes. -/
namespace Go.Proofs.Ytcicdbhffkpldaa
open Go.RowKit

theorem infUd : (Try.prog.info? 5).map (fun i => (i.zero, i.size, i.bytes)) = some (some (.int .u8 0), 1, 1) := by kernel_rfl
theorem str_same {x y : List UInt8} : ((strOf x).toList == (strOf y).toList) = decide (x = y) := by
  rw [strOf_list, strOf_list]
  by_cases h : x = y
  · rw [decide_eq_true h, h]; exact beq_self_eq_true _
  · rw [decide_eq_false h, beq_eq_false_iff_ne]; exact h
set_option maxRecDepth 100000 in
theorem bytesEq_any (va vb : Value) (xs ys : List UInt8) (w : World) (ha : Rd w va xs) (hb : Rd w vb ys) :
    Calls Try.prog 28 #[va, vb] w fun e w' => e = .returned (.bool (decide (xs = ys))) ∧ w = w' := by
  have HA := Lib.hid ha
  have HB := Lib.hid hb
  have HS := Lib.hid (str_same (x := xs) (y := ys))
  obtain ⟨A, c, rfl, _, _, _⟩ := ha.form
  obtain ⟨B, d, rfl, _, _, _⟩ := hb.form
  obtain ⟨sa, hsa⟩ : ∃ s, s = strOf xs := ⟨_, rfl⟩
  obtain ⟨sb, hsb⟩ : ∃ s, s = strOf ys := ⟨_, rfl⟩
  have HSA := Lib.hid hsa
  have HSB := Lib.hid hsb
  rw [← hsa, ← hsb] at HS
  clear ha hb hsa hsb
  go_enter Try.func28, Try.ntmps28
  go_wp2_with ((with_reducible refine here_conv ?_)
               first
                 | (refine wpList_rd_str _ rfl (.tmp 5) _ _ 5 rfl Try.underlying25 Try.underlying5 Try.underlying9 xs HA.out ?_; rw [← HSA.out])
                 | (refine wpList_rd_str _ rfl (.tmp 7) _ _ 5 rfl Try.underlying25 Try.underlying5 Try.underlying9 ys HB.out ?_; rw [← HSB.out]))
  go_ret
  rw [HS.out]
  exact ⟨rfl, rfl⟩
theorem rsP_nil (w : World) : RsP w (.slice none 0 0) [] := ⟨⟨none, 0, rfl, Nat.zero_le _, fun i hi => by cases hi⟩, fun _ _ e => (by injection e with _ _ e; exact e.symm), fun A n c e => by injection e with _ h1 h2; omega⟩
/-- What Read answers, in memory. -/
structure ReadD (b : List UInt8) (w0 : World) (u : Value) (k : Int) (w : World) : Prop where
  ans : ∃ m, RsP w u m ∧ ReadAns b m k
  below : Below w0.heap.size w0 w
theorem ReadD.none {b : List UInt8} {w0 w : World} {k : Int} (h : ReadAns b [] k) (hb : Below w0.heap.size w0 w) : ReadD b w0 (.slice .none 0 0) k w := ⟨⟨[], rsP_nil w, h⟩, hb⟩
theorem readL_no {b : List UInt8} {L : List Pc} (hs : ¬ shortD b) (hL : ∀ R c, formR (inD b) = some (R, c) → L = allR R) (hn : ¬ (MayLay L ∧ layD L = b)) : ReadAns b [] 4 :=
  .inr (.inr ⟨rfl, rfl, hs, fun ⟨m, h1, h2, h3⟩ => by
    obtain ⟨R, e, e2, _⟩ := laid_read h2 h1 h3
    have e3 := hL R [] e
    rw [e2] at e3
    rw [e3] at hn
    exact hn ⟨h2, h3⟩⟩)
theorem readL_long {b : List UInt8} (hs : ¬ shortD b) (hl : 4096 < b.length) : ReadAns b [] 4 :=
  .inr (.inr ⟨rfl, rfl, hs, fun ⟨m, _, h2, h3⟩ => by
    have h4 := lay_len h2
    have h5 := h2.room
    rw [h3] at h4
    omega⟩)
set_option maxRecDepth 100000 in
set_option maxHeartbeats 4000000 in
theorem read_any (v : Value) (b : List UInt8) (w : World) (h : Rd w v b) (hl : b.length ≤ 100000) :
    Calls Try.prog 13 #[v] w fun e w' => ∃ u k, e = .returned (.tuple #[u, .int .i64 k]) ∧ ReadD b w u k w' := by
  obtain ⟨A, c, rfl, _, _, _⟩ := h.form
  obtain ⟨ipu, hiu, hiuz, hius, hiub⟩ := inf_of infUd
  have H0 := Lib.hid h
  obtain ⟨n, hn⟩ : ∃ n, n = b.length := ⟨_, rfl⟩
  rw [← hn] at h ⊢
  have HN := Lib.hid hn
  by_cases z1 : b.length < 2
  · have HC := Lib.hid (get_no _ b 2 w h (by omega) (by omega) z1)
    have HA : Hid (ReadD b w (.slice none 0 0) 2 w) := Lib.hid (ReadD.none (.inr (.inl ⟨rfl, rfl, .inl z1⟩)) (Below.refl _ _))
    clear h hl hn z1
    go_enter Try.func13, Try.ntmps13
    go_wp2_with (fail)
    refine HC.out.mono ?_
    rintro e w' ⟨rfl, hw'⟩
    subst hw'
    go_wp2_with (fail)
    go_ret2
    exact ⟨_, _, rfl, HA.out⟩
  · have HC := Lib.hid (get_yes _ b 2 w h (by omega) (by omega) (by omega))
    obtain ⟨x, hx⟩ : ∃ x, x = numB (b.take 2) := ⟨_, rfl⟩
    rw [← hx] at HC
    have hxl : x < 65536 := by
      have h5 : (b.take 2).length = 2 := by rw [List.length_take]; omega
      rw [hx]
      match b.take 2, h5 with
      | [p, q], _ =>
        have := p.toNat_lt
        have := q.toNat_lt
        simp only [numB]
        omega
    obtain ⟨q, hq⟩ : ∃ q, q = n - 2 := ⟨_, rfl⟩
    have s1' : IntKind.i64.wrap ((n : Int) - 2) = (q : Int) := by
      rw [IntWalk.i64_in _ (by omega)]
      omega
    have s2' : IntKind.u64.wrap (q : Int) = (q : Int) := IntWalk.u64_in _ (by omega)
    have HX := Lib.hid hx
    by_cases z2 : q < x
    · have l1 : (q : Int) < x := by omega
      have l2 : decide ((q : Int) < x) = true := decide_eq_true l1
      have l3 : decide (q < x) = true := decide_eq_true z2
      have HA : Hid (ReadD b w (.slice none 0 0) 2 w) := Lib.hid (ReadD.none (.inr (.inl ⟨rfl, rfl, .inr (by rw [← hx, ← hn, ← hq]; exact z2)⟩)) (Below.refl _ _))
      clear h hl hn z1 hx hq
      go_enter Try.func13, Try.ntmps13
      go_wp2_with (fail)
      refine HC.out.mono ?_
      rintro e w' ⟨rfl, hw'⟩
      subst hw'
      go_wp2_with (fail)
      go_ret2
      exact ⟨_, _, rfl, HA.out⟩
    · have l1 : ¬ (q : Int) < x := by omega
      have l2 : decide ((q : Int) < x) = false := decide_eq_false l1
      have l3 : decide (q < x) = false := decide_eq_false z2
      have hsh : ¬ shortD b := by
        unfold shortD
        rw [← hx, ← hn, ← hq]
        omega
      have HSH := Lib.hid hsh
      by_cases z3 : 4096 < n
      · have m1 : (4096 : Int) < n := by omega
        have m2 : decide ((4096 : Int) < n) = true := decide_eq_true m1
        have m3 : decide (4096 < n) = true := decide_eq_true z3
        have HA : Hid (ReadD b w (.slice none 0 0) 4 w) := Lib.hid (ReadD.none (readL_long hsh (by omega)) (Below.refl _ _))
        clear h hl hn z1 hx hq hsh
        go_enter Try.func13, Try.ntmps13
        go_wp2_with (fail)
        refine HC.out.mono ?_
        rintro e w' ⟨rfl, hw'⟩
        subst hw'
        go_wp2_with (fail)
        go_ret2
        exact ⟨_, _, rfl, HA.out⟩
      · have m1 : ¬ (4096 : Int) < n := by omega
        have m2 : decide ((4096 : Int) < n) = false := decide_eq_false m1
        have m3 : decide (4096 < n) = false := decide_eq_false z3
        obtain ⟨b2, hb2⟩ : ∃ y, y = 2 + x := ⟨_, rfl⟩
        have x2' : IntKind.u64.wrap (2 + (x : Int)) = (b2 : Int) := by
          rw [IntWalk.u64_in _ (by omega)]
          omega
        obtain ⟨BM, dM, hrM, hdM⟩ := h.midK (P := Try.prog) 25 5 ipu Try.underlying25 hiu hius .i64 .u64 2 b2 (by omega) (by omega)
        rw [show b2 - 2 = x by omega] at hrM hdM
        have hin : (b.drop 2).take x = inD b := by unfold inD; rw [← hx]
        rw [hin] at hdM
        have hil : (inD b).length ≤ 4096 := by
          unfold inD
          rw [List.length_take, List.length_drop]
          omega
        have HIL := Lib.hid hil
        have HRM := Lib.hid hrM
        have HF := Lib.hid (piecesOf_any _ (inD b) w hdM (by omega))
        clear h hl hn z1 z2 z3 hx hq hxl hsh hb2 hrM hdM hin hil
        go_enter Try.func13, Try.ntmps13
        go_wp2_with (fail)
        refine HC.out.mono ?_
        rintro e w' ⟨rfl, hw'⟩
        subst hw'
        go_wp2_with ((with_reducible refine here_sl ?_); refine wpList_slice_fact rfl 25 5 Try.underlying25 (.tmp 27) _ _ rfl A n c _ _ _ rfl rfl rfl HRM.out ?_)
        refine HF.out.mono ?_
        rintro e w2 ⟨u2, L, rfl, own2, ok2, few2, all2, hb2⟩
        have hrs := ownR_rsp own2 (fun p hp => (ok2 p hp).1) (by have := HIL.out; unfold maxLen; omega)
        have HLY := Lib.hid (lay_any u2 L w2 hrs (by have := HIL.out; omega) fun p hp => (ok2 p hp).2)
        have HRS := Lib.hid hrs
        have HALL := Lib.hid all2
        have B2 := Lib.hid hb2
        clear own2 ok2 few2 all2 hb2 hrs HF
        go_wp2_with (fail)
        refine HLY.out.mono ?_
        rintro e w3 ⟨u3, rfl, hr3, hb3⟩
        obtain ⟨k, hk⟩ : ∃ k : Nat, k = checkD L := ⟨_, rfl⟩
        rw [← hk] at hr3 ⊢
        have B3 : Hid (Below w.heap.size w w3) := Lib.hid (B2.out.trans (hb3.mono B2.out.size))
        have RS3 := Lib.hid (HRS.out.below hb3)
        have HB3 : Hid (Rd w3 (.slice A n c) b) := Lib.hid (by rw [HN.out]; exact H0.out.below B3.out)
        by_cases z4 : k = 0
        · subst z4
          rw [if_pos rfl] at hr3
          have hmy := check_ok.1 hk.symm
          have HEQ := Lib.hid (bytesEq_any u3 (.slice A n c) (layD L) b w3 hr3 HB3.out)
          by_cases z5 : layD L = b
          · have HA : Hid (ReadD b w u2 0 w3) := Lib.hid ⟨⟨L, RS3.out, .inl ⟨rfl, hmy, z5⟩⟩, B3.out⟩
            rw [decide_eq_true z5] at HEQ
            clear hr3 hb3 hk hmy z5 HLY
            go_wp2_with (fail)
            refine HEQ.out.mono ?_
            rintro e w' ⟨rfl, hw'⟩
            subst hw'
            go_wp2_with (fail)
            go_ret2
            exact ⟨_, _, rfl, HA.out⟩
          · have HA : Hid (ReadD b w (.slice none 0 0) 4 w3) := Lib.hid (ReadD.none (readL_no HSH.out HALL.out fun hh => z5 hh.2) B3.out)
            rw [decide_eq_false z5] at HEQ
            clear hr3 hb3 hk hmy z5 HLY
            go_wp2_with (fail)
            refine HEQ.out.mono ?_
            rintro e w' ⟨rfl, hw'⟩
            subst hw'
            go_wp2_with (fail)
            go_ret2
            exact ⟨_, _, rfl, HA.out⟩
        · have zI : ((k : Int) == 0) = false := by rw [beq_eq_false_iff_ne]; omega
          have zN : (k == 0) = false := by rw [beq_eq_false_iff_ne]; omega
          have zM : ¬ k = 0 := z4
          have zP : ((k : Int) != 0) = true := by rw [bne, zI]; rfl
          have zR : (k != 0) = true := by rw [bne, zN]; rfl
          have zQ : ¬ (k : Int) = 0 := by omega
          have HA : Hid (ReadD b w (.slice none 0 0) 4 w3) := Lib.hid (ReadD.none (readL_no HSH.out HALL.out fun hh => z4 (by rw [hk]; exact check_ok.2 hh.1)) B3.out)
          clear hr3 hb3 hk z4 HLY
          go_wp2_with (fail)
          go_ret2
          exact ⟨_, _, rfl, HA.out⟩
end Go.Proofs.Ytcicdbhffkpldaa

/- What the fourteenth layer's laws need of the developers' delta, proved. Conditions: as each says. -/
namespace Go.Proofs.Ytcicdbhffkpldaa
open Go.RowKit

theorem deltac : DeltaC where
  room v l w h hn hs := room_any v l w h (by omega) fun p hp => by have := hs p hp; omega
  check v l w h hn hs := check_any v l w h (by omega) fun p hp => by have := hs p hp; omega
  lay v l w h hn hs := lay_any v l w h (by omega) fun p hp => by have := hs p hp; omega
  read v b w h hl := by
    refine (read_any v b w h hl).mono ?_
    rintro e w' ⟨u, k, rfl, ⟨m, h1, h2⟩, h3⟩
    exact ⟨u, m, k, rfl, h1, h2, h3⟩
end Go.Proofs.Ytcicdbhffkpldaa
