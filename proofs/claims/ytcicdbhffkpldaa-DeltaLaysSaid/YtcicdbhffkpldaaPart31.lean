/- Part 31 of the words that the laws share: DtRow, DtRoo. No condition of its own: each theorem says its own. -/
import Derived.Test.YtcicdbhffkpldaaPart30
import Derived.Test.YtcicdbhffkpldaaPart25
import Derived.Test.YtcicdbhffkpldaaPart12
import Derived.Test.YtcicdbhffkpldaaPart4
import Derived.Test.YtcicdbhffkpldaaPart16
import Derived.Deep.Cut
import Derived.BigQuiet

/- The developers' rowsOf: pieces cut where another series begins. Conditions: a row of pieces, at most 100000. -/
namespace Go.Proofs.Ytcicdbhffkpldaa
open Go.RowKit

theorem infGr : (Try.prog.info? 22).map (fun i => (i.zero, i.size, i.bytes)) = some (some (.slice none 0 0), 1, 24) := by kernel_rfl
theorem infPc : (Try.prog.info? 46).map (fun i => (i.zero, i.size, i.bytes)) = some (some (.agg #[.string ByteArray.empty, .int .i64 0, .int .i64 0, .int .u64 0, .int .u16 0]), 5, 48) := by kernel_rfl
/-- Rows so far, of l: f is where the row under way began. -/
structure RwR (l : List Pc) (R : List (List Pc)) (f j : Nat) : Prop where
  eq : runs l = R ++ runs (l.drop f)
  le : f ≤ j
  fits : j ≤ l.length
  on : f < l.length → ∃ p, l[f]? = some p ∧ twN p l f = (j - f) + twN p l j ∧ ∀ q, l[j]? = some q → q.s.toList = p.s.toList
  last : j = l.length → f = j
  few : R.length ≤ f
theorem RwR.start (l : List Pc) : RwR l [] 0 0 where
  eq := rfl
  le := Nat.le_refl _
  fits := Nat.zero_le _
  on h := ⟨l[0], List.getElem?_eq_getElem h, by omega, fun q hq => by
    rw [List.getElem?_eq_getElem h] at hq
    injection hq with hq
    rw [hq]⟩
  last _ := rfl
  few := Nat.le_refl _
theorem RwR.done {l : List Pc} {R : List (List Pc)} {f : Nat} (h : RwR l R f l.length) : R = runs l := by
  rw [h.eq, h.last rfl, List.drop_length, runs, List.append_nil]
theorem begB_same {l : List Pc} {j : Nat} {q r : Pc} (hq : l[j]? = some q) (hr : l[j + 1]? = some r) : begB l (j + 1) = false ↔ r.s.toList = q.s.toList := by
  rw [begB_at hq hr]
  simp
theorem RwR.on1 {l : List Pc} {R : List (List Pc)} {f j : Nat} (h : RwR l R f j) (hj : j < l.length) : ∃ p q, l[f]? = some p ∧ l[j]? = some q ∧ q.s.toList = p.s.toList ∧ twN p l f = (j + 1 - f) + twN p l (j + 1) := by
  have hle := h.le
  obtain ⟨p, hp, h1, h2⟩ := h.on (by omega)
  have hq := List.getElem?_eq_getElem hj
  have h3 := h2 _ hq
  have h4 := twN_yes hq h3
  exact ⟨p, _, hp, hq, h3, by omega⟩
theorem RwR.cut {l : List Pc} {R : List (List Pc)} {f j : Nat} (h : RwR l R f j) (hj : j < l.length) (hc : j + 1 = l.length ∨ begB l (j + 1) = true) : RwR l (R ++ [(l.drop f).take (j + 1 - f)]) (j + 1) (j + 1) := by
  obtain ⟨p, q, hp, hq, h3, h4⟩ := h.on1 hj
  have hle := h.le
  have hfew := h.few
  have h0 : twN p l (j + 1) = 0 := by
    rcases hc with e | e
    · exact twN_end (by omega)
    · by_cases hlt : j + 1 < l.length
      · refine twN_no (List.getElem?_eq_getElem hlt) fun e2 => ?_
        have := (begB_same hq (List.getElem?_eq_getElem hlt)).2 (by rw [e2, h3])
        rw [this] at e
        cases e
      · exact twN_end (by omega)
  have h5 : twN p l f = j + 1 - f := by omega
  have h6 := runs_at hp
  rw [h5, show f + (j + 1 - f) = j + 1 by omega] at h6
  refine ⟨?_, Nat.le_refl _, hj, fun hlt => ⟨l[j + 1], List.getElem?_eq_getElem hlt, by omega, fun q hq => ?_⟩, fun _ => rfl, ?_⟩
  · rw [h.eq, h6, List.append_assoc]
    rfl
  · rw [List.getElem?_eq_getElem hlt] at hq
    injection hq with hq
    rw [hq]
  · rw [List.length_append, List.length_singleton]
    omega
theorem RwR.go {l : List Pc} {R : List (List Pc)} {f j : Nat} (h : RwR l R f j) (hj : j + 1 < l.length) (hc : begB l (j + 1) = false) : RwR l R f (j + 1) := by
  obtain ⟨p, q, hp, hq, h3, h4⟩ := h.on1 (by omega)
  have hle := h.le
  refine ⟨h.eq, by omega, by omega, fun _ => ⟨p, hp, h4, fun r hr => ?_⟩, fun e => by omega, h.few⟩
  rw [(begB_same hq hr).1 hc, h3]
/-- Rows under way, in memory. -/
structure RwS (w0 : World) (l : List Pc) (R : List (List Pc)) (f j : Nat) (vo : Value) (w : World) : Prop where
  own : OwnG w w0.heap.size vo R
  rr : RwR l R f j
  below : Below w0.heap.size w0 w
noncomputable def body_drw : Code := (((Try.f31.body.map loopsOf).getD [])[0]?).getD .skip
set_option maxRecDepth 100000 in
set_option maxHeartbeats 8000000 in
theorem drw_loop (c1 c2 c5 c9 c10 c11 c12 c13 c14 c15 c16 c17 c18 c19 c20 c21 c22 c23 c24 c25 c26 c27 c28 c29 c30 c31 c32 c33 : Value) (w0 : World) (A : Option Addr) (c n : Nat) (l : List Pc) (hnl : Hid (n = l.length)) (h0 : Hid (RsP w0 (.slice A l.length c) l)) (hn : Hid (l.length ≤ 100000)) {Q : Exit → Act → World → Prop}
    (HQ : Hid (∀ (u5 u9 u10 u11 u12 u13 u14 u15 u16 u17 u18 u19 u20 u21 u22 u23 u24 u25 u26 u27 u28 u29 u30 u31 u32 vo x y : Value) (w' : World), Hid (OwnG w' w0.heap.size vo (runs l) ∧ Below w0.heap.size w0 w') → Q (.exit 0) ⟨List.toArray ((.slice A n c) :: c1 :: c2 :: vo :: x :: u5 :: (.slice A n c) :: (.int .i64 (n : Int)) :: y :: u9 :: u10 :: u11 :: u12 :: u13 :: u14 :: u15 :: u16 :: u17 :: u18 :: u19 :: u20 :: u21 :: u22 :: u23 :: u24 :: u25 :: u26 :: u27 :: u28 :: u29 :: u30 :: u31 :: u32 :: c33 :: []), []⟩ w')) :
    (Code.loop body_drw).wp Try.prog Q ⟨List.toArray ((.slice A n c) :: c1 :: c2 :: (.slice none 0 0) :: (.int .i64 0) :: c5 :: (.slice A n c) :: (.int .i64 (n : Int)) :: (.int .i64 0) :: c9 :: c10 :: c11 :: c12 :: c13 :: c14 :: c15 :: c16 :: c17 :: c18 :: c19 :: c20 :: c21 :: c22 :: c23 :: c24 :: c25 :: c26 :: c27 :: c28 :: c29 :: c30 :: c31 :: c32 :: c33 :: []), []⟩ w0 := by
  obtain ⟨ipg, hig, higz, higs, higb⟩ := inf_of infGr
  obtain ⟨ipc, hip, hipz, hips, hipb⟩ := inf_of infPc
  unfold body_drw
  conv => arg 2; arg 1; whnf
  go_loopw [3, 4, 8] (fun vo x y wx => ∃ (j f : Nat) (R : List (List Pc)), y = .int .i64 (j : Int) ∧ x = .int .i64 (f : Int) ∧ RwS w0 l R f j vo wx) (fun _ _ y _ => n - (intOf y).toNat)
  case atStart => exact ⟨0, 0, [], rfl, rfl, ⟨OwnG.nil _ _, RwR.start l, Below.refl _ _⟩⟩
  case round =>
    obtain ⟨j, f, R, rfl, rfl, hS⟩ := hrel
    have HS := Lib.hid hS
    have hfit := hS.rr.fits
    have hle := hS.rr.le
    have hl := hn.out
    have hnn := hnl.out
    have pI : (n : Int) ≤ 100000 := by omega
    by_cases hlt : j < n
    · have jI : (j : Int) < n := by omega
      have HLT := Lib.hid hlt
      obtain ⟨j1, hj1⟩ : ∃ j1, j1 = j + 1 := ⟨_, rfl⟩
      have HJ1 := Lib.hid hj1
      have jw : IntKind.i64.wrap ((j : Int) + 1) = (j1 : Int) := by
        rw [IntWalk.i64_in _ (by omega)]
        omega
      have HC : Hid (j1 = n ∨ begB l (j + 1) = true → RwR l (R ++ [(l.drop f).take (j1 - f)]) j1 j1) := Lib.hid fun h => by
        have h1 := hS.rr.cut (by omega) (by rw [← hj1]; rcases h with h | h; (exact .inl (by omega)); (rw [hj1]; exact .inr h))
        rw [← hj1] at h1
        exact h1
      obtain ⟨B, d, hrun, hrow, hfar⟩ := h0.out.mid (P := Try.prog) 22 46 ipc Try.underlying22 hip hips f j1 (by omega) (by omega)
      have HRUN : Hid (∀ W, (Instr.slice 22 (.slice A n c) (some (.int .i64 (f : Int))) (some (.int .i64 (j1 : Int))) none).run Try.prog W = .ok (.slice B ((l.drop f).take (j1 - f)).length d) W) := Lib.hid (by rw [hnn]; exact hrun)
      obtain ⟨row, hrw⟩ : ∃ r, r = (l.drop f).take (j1 - f) := ⟨_, rfl⟩
      rw [← hrw] at HRUN hrow HC hfar
      obtain ⟨rn, hrn⟩ : ∃ r, r = row.length := ⟨_, rfl⟩
      rw [← hrn] at HRUN hrow hfar
      have hlow : ∀ b, (Value.slice B rn d).ownBlock = some b → b < w0.heap.size := fun b e => by
        have e2 := hfar b e
        obtain ⟨g, o, eA, hg, _⟩ := h0.out.at' (show 0 < l.length by omega)
        rw [eA] at e2
        have e3 : some g = some b := e2
        injection e3 with e3
        omega
      have HROW := Lib.hid hrow
      have HLOW := Lib.hid hlow
      have HRL : Hid (R.length ≤ 100000) := Lib.hid (by have := hS.rr.few; omega)
      have APP : ∀ (W : World), Hid (OwnG W w0.heap.size (u3) R ∧ Below w0.heap.size w0 W) → Hid (∃ us : List Value, OwnR 1 W w0.heap.size 22 u3 (us.map fun u => [u]) ∧ us.length = R.length ∧ (∀ v' w', OwnR 1 w' w0.heap.size 22 v' ((us.map fun u => [u]) ++ [[.slice B rn d]]) → Next W w' w0.heap.size u3 v' → OwnG w' w0.heap.size v' (R ++ [row]) ∧ Below w0.heap.size w0 w')) := fun W h => Lib.hid (by
        obtain ⟨us, hu1, hu2, hu3⟩ := h.out.1.ex
        refine ⟨us, hu1, hu2, fun v' w' h1 h2 => ⟨OwnG.snoc hu2 hu3 ⟨HROW.out.below h.out.2, fun b e => ⟨Nat.lt_of_lt_of_le (HLOW.out b e) h.out.2.size, fun e2 => ?_⟩⟩ h1 h2, h.out.2.trans h2.below⟩⟩
        have h3 := (hu1.lt b e2.symm).1
        have h4 := HLOW.out b e
        omega)
      clear hrun hrow hfar hlow hrw hrn hS hfit hle hl
      by_cases hlast : j1 = n
      · have HCT : Hid (RwR l (R ++ [row]) j1 j1) := Lib.hid (HC.out (.inl hlast))
        clear HC hj1 hnn
        subst hlast
        have GA : Hid (OwnG wr w0.heap.size u3 R) := Lib.hid HS.out.own
        have DA : Hid (Below w0.heap.size w0 wr) := Lib.hid HS.out.below
        obtain ⟨us, hu1, hu2, hu3⟩ := (APP wr (Lib.hid ⟨GA.out, DA.out⟩)).out
        have HU1 := Lib.hid hu1
        have HU3 := Lib.hid hu3
        have HUL : Hid ((us.map fun u => [u]).length ≤ 100000) := Lib.hid (by rw [List.length_map, hu2]; exact HRL.out)
        clear hu1 hu2 hu3 APP
        go_wp2_with (first
          | (with_reducible refine here_sl ?_
             refine wpList_slice_fact rfl 22 46 Try.underlying22 (.tmp 23) (some (.tmp 24)) (some (.tmp 26)) rfl A j1 c _ _ _ rfl rfl rfl HRUN.out ?_)
          | (with_reducible refine here_apd ?_
             refine wpList_append_elR wr [.slice B rn d] 22 rfl (.tmp 22) (.tmp 28) _ rfl w0.heap.size 22 ipg _ 1 24 Try.underlying56 hig higz higs higb rfl (by decide) u3 _ rfl HU1.out rfl (by intro u hu; rw [List.mem_singleton.1 hu]; rfl) rfl (by have h := HUL.out; unfold maxLen; omega) (by have h := HUL.out; omega) DA.out.size ?_
             intro v7 w7 own7 nx7
             have HG7 := Lib.hid (HU3.out v7 w7 own7 nx7)
             clear own7 nx7
             go_frame))
        have hlt := HLT.out
        have hj := HJ1.out
        refine ⟨⟨j + 1, j1, R ++ [row], by go_num, rfl, ⟨HG7.out.1, by have h := HCT.out; have e := HJ1.out; subst e; exact h, HG7.out.2⟩⟩, by simp [intOf]; omega⟩
      · have jn : ((j1 : Int) == (n : Int)) = false := by rw [beq_eq_false_iff_ne]; omega
        obtain ⟨b, hb⟩ : ∃ b, b = begB l (j + 1) := ⟨_, rfl⟩
        have HBG : Hid (Calls Try.prog 25 #[.slice A n c, .int .i64 (j1 : Int)] wr fun e W' => e = .returned (.bool b) ∧ ∃ k, W' = wr.drewN k) := Lib.hid (by
          rw [hnn]
          exact begins_any A c l _ (h0.out.below HS.out.below) hn.out j1 (by omega) b (by rw [hb, hj1]))
        have HGO : Hid (b = false → RwR l R f (j + 1)) := Lib.hid fun h => HS.out.rr.go (by omega) (by rw [← hb]; exact h)
        have HCT : Hid (b = true → RwR l (R ++ [row]) j1 j1) := Lib.hid fun h => HC.out (.inr (by rw [← hb]; exact h))
        clear HC hj1 hb hlast hnn
        go_wp2_with (fail)
        refine HBG.out.mono ?_
        rintro e wa ⟨rfl, nq, hwa⟩
        have GA : Hid (OwnG wa w0.heap.size u3 R) := Lib.hid (by rw [hwa]; exact HS.out.own.below (below_drewN (Below.refl _ _) nq))
        have DA : Hid (Below w0.heap.size w0 wa) := Lib.hid (by rw [hwa]; exact below_drewN HS.out.below nq)
        clear hwa HBG
        cases b with
        | false =>
          have HGO2 := Lib.hid (HGO.out rfl)
          clear HGO HCT APP
          go_wp2_with (fail)
          have hlt := HLT.out
          have hj := HJ1.out
          refine ⟨⟨j + 1, f, R, by go_num, rfl, ⟨GA.out, HGO2.out, DA.out⟩⟩, by simp [intOf]; omega⟩
        | true =>
          replace HCT := Lib.hid (HCT.out rfl)
          clear HGO
          obtain ⟨us, hu1, hu2, hu3⟩ := (APP wa (Lib.hid ⟨GA.out, DA.out⟩)).out
          have HU1 := Lib.hid hu1
          have HU3 := Lib.hid hu3
          have HUL : Hid ((us.map fun u => [u]).length ≤ 100000) := Lib.hid (by rw [List.length_map, hu2]; exact HRL.out)
          clear hu1 hu2 hu3 APP
          go_wp2_with (first
            | (with_reducible refine here_sl ?_
               refine wpList_slice_fact rfl 22 46 Try.underlying22 (.tmp 23) (some (.tmp 24)) (some (.tmp 26)) rfl A n c _ _ _ rfl rfl rfl HRUN.out ?_)
            | (with_reducible refine here_apd ?_
               refine wpList_append_elR wa [.slice B rn d] 22 rfl (.tmp 22) (.tmp 28) _ rfl w0.heap.size 22 ipg _ 1 24 Try.underlying56 hig higz higs higb rfl (by decide) u3 _ rfl HU1.out rfl (by intro u hu; rw [List.mem_singleton.1 hu]; rfl) rfl (by have h := HUL.out; unfold maxLen; omega) (by have h := HUL.out; omega) DA.out.size ?_
               intro v7 w7 own7 nx7
               have HG7 := Lib.hid (HU3.out v7 w7 own7 nx7)
               clear own7 nx7
               go_frame))
          have hlt := HLT.out
          have hj := HJ1.out
          refine ⟨⟨j + 1, j1, R ++ [row], by go_num, rfl, ⟨HG7.out.1, by have h := HCT.out; have e := HJ1.out; subst e; exact h, HG7.out.2⟩⟩, by simp [intOf]; omega⟩
    · have jI : ¬ (j : Int) < n := by omega
      have e : j = l.length := by omega
      have HD : Hid (OwnG wr w0.heap.size u3 (runs l) ∧ Below w0.heap.size w0 wr) := Lib.hid (by
        have h1 := hS.rr
        rw [e] at h1
        rw [← h1.done]
        exact ⟨hS.own, hS.below⟩)
      clear e hS hfit hle hl hlt hnn
      go_wp2_with (fail)
      exact HQ.out _ _ _ _ _ _ _ _ _ _ _ _ _ _ _ _ _ _ _ _ _ _ _ _ _ _ _ _ _ HD
set_option maxRecDepth 100000 in
set_option maxHeartbeats 4000000 in
theorem rowsOf_any (v : Value) (l : List Pc) (w : World) (h : RsP w v l) (hn : l.length ≤ 100000) :
    Calls Try.prog 31 #[v] w fun e w' => ∃ u, e = .returned u ∧ RsG w' u (runs l) ∧ Below w.heap.size w w' := by
  obtain ⟨A, c, rfl, _⟩ := h.form
  have H := Lib.hid h
  have HN := Lib.hid hn
  obtain ⟨n, hnn⟩ : ∃ n, n = l.length := ⟨_, rfl⟩
  rw [← hnn]
  have HNN := Lib.hid hnn
  clear h hn hnn
  go_enter Try.func31, Try.ntmps31
  go_wp2_with (fail)
  refine drw_loop _ _ _ _ _ _ _ _ _ _ _ _ _ _ _ _ _ _ _ _ _ _ _ _ _ _ _ _ w A c n l HNN H HN (Lib.hid ?_)
  intro u5 u9 u10 u11 u12 u13 u14 u15 u16 u17 u18 u19 u20 u21 u22 u23 u24 u25 u26 u27 u28 u29 u30 u31 u32 vo x y w' HB
  go_wp2_with (fail)
  go_ret
  exact ⟨vo, rfl, HB.out.1.rsG (by have := runs_len l; have := HN.out; unfold maxLen; omega), HB.out.2⟩
end Go.Proofs.Ytcicdbhffkpldaa

/- The developers' Room. Conditions: a row of pieces, at most 100000, their series at most 100000 bytes. -/
namespace Go.Proofs.Ytcicdbhffkpldaa
open Go.RowKit

theorem roomR_leG (B : Nat) : ∀ (o : Option ByteArray) (l : List Pc), (∀ p ∈ l, p.s.size ≤ B) → roomR o l ≤ (B + 38) * l.length
  | _, [], _ => by simp [roomR]
  | o, p :: l, h => by
    have h1 := h p (List.mem_cons_self ..)
    have h2 := roomR_leG B (some p.s) l fun q hq => h q (List.mem_cons_of_mem _ hq)
    rw [roomR, List.length_cons, Nat.mul_add]
    split <;> omega
theorem room_beg {l : List Pc} {j : Nat} {p : Pc} (hp : l[j]? = some p) : roomR (prevS l j) (l.drop j) = (if begB l j = true then 6 + p.s.size else 0) + 32 + roomR (prevS l (j + 1)) (l.drop (j + 1)) := by
  rw [room_step hp]
  have e : begB l j = !(likeO (prevS l j) p) := by unfold begB; rw [hp]
  rw [e]
  cases likeO (prevS l j) p <;> simp
theorem info_pc5 : (Try.prog.info? 46).map (fun i => (i.zero, i.size, i.bytes)) = some (some (.agg #[.string ByteArray.empty, .int .i64 0, .int .i64 0, .int .u64 0, .int .u16 0]), 5, 48) := by kernel_rfl
noncomputable def body_dro : Code := (((Try.f11.body.map loopsOf).getD [])[0]?).getD .skip
set_option maxRecDepth 100000 in
set_option maxHeartbeats 4000000 in
theorem dro_loop (c1 c2 c4 c5 c9 c10 c11 c12 c13 c14 c15 c16 c17 c18 c19 c20 c21 c22 c23 c24 c25 : Value) (A : Option Addr) (c : Nat) (l : List Pc) (w0 w : World) (hw : Hid (Below w0.heap.size w0 w)) (h0 : Hid (RsP w0 (.slice A l.length c) l)) (hn : Hid (l.length ≤ 100000 ∧ ∀ p ∈ l, p.s.size ≤ 100000)) {Q : Exit → Act → World → Prop}
    (HQ : Hid (∀ (u4 u5 u9 u10 u11 u12 u13 u14 u15 u16 u17 u18 u19 u20 u21 u22 u23 u24 y : Value) (w' : World), Hid (Below w0.heap.size w0 w') → Q (.exit 0) ⟨List.toArray ((.slice A l.length c) :: c1 :: c2 :: (.int .i64 (roomD l : Int)) :: u4 :: u5 :: (.slice A l.length c) :: (.int .i64 (l.length : Int)) :: y :: u9 :: u10 :: u11 :: u12 :: u13 :: u14 :: u15 :: u16 :: u17 :: u18 :: u19 :: u20 :: u21 :: u22 :: u23 :: u24 :: c25 :: []), []⟩ w')) :
    (Code.loop body_dro).wp Try.prog Q ⟨List.toArray ((.slice A l.length c) :: c1 :: c2 :: (.int .i64 4) :: c4 :: c5 :: (.slice A l.length c) :: (.int .i64 (l.length : Int)) :: (.int .i64 0) :: c9 :: c10 :: c11 :: c12 :: c13 :: c14 :: c15 :: c16 :: c17 :: c18 :: c19 :: c20 :: c21 :: c22 :: c23 :: c24 :: c25 :: []), []⟩ w := by
  unfold body_dro
  conv => arg 2; arg 1; whnf
  go_loopw [3, 8] (fun x y wx => ∃ (j n : Nat), y = .int .i64 (j : Int) ∧ x = .int .i64 (n : Int) ∧ j ≤ l.length ∧ n + roomR (prevS l j) (l.drop j) = roomD l ∧ Below w0.heap.size w0 wx) (fun _ y _ => l.length - (intOf y).toNat)
  case atStart => exact ⟨0, 4, rfl, rfl, Nat.zero_le _, rfl, hw.out⟩
  case round =>
    obtain ⟨j, n, rfl, rfl, hj, hsum, hwb⟩ := hrel
    have hrs : RsP wr (.slice A l.length c) l := h0.out.below hwb
    have HWB := Lib.hid hwb
    have hl := hn.out.1
    have hd : roomD l ≤ 4 + 100038 * 100000 := by
      unfold roomD
      have := roomR_leG 100000 none l hn.out.2
      omega
    have pI : (l.length : Int) ≤ 9223372036854775807 := by omega
    have nI : (n : Int) ≤ 11000000000 := by omega
    by_cases hlt : j < l.length
    · have jI : (j : Int) < l.length := by omega
      have HLT := Lib.hid hlt
      obtain ⟨p, hp⟩ : ∃ p, l[j]? = some p := ⟨_, List.getElem?_eq_getElem hlt⟩
      obtain ⟨g, o, rfl, hg, hr, hok⟩ := hrs.at2 hp
      have hst := room_beg hp
      have hps := hn.out.2 p (List.mem_of_getElem? hp)
      obtain ⟨b, hb⟩ : ∃ b, b = begB l j := ⟨_, rfl⟩
      rw [← hb] at hst
      have HBG : Hid (∀ W, Below w0.heap.size w0 W → Calls Try.prog 25 #[.slice (some ⟨g, o, none⟩) l.length c, .int .i64 (j : Int)] W fun e W' => e = .returned (.bool b) ∧ ∃ m, W' = W.drewN m) := Lib.hid fun W hW => begins_any _ c l W (h0.out.below hW) hl j hlt b hb
      obtain ⟨k0, k1, k2, k3, k4⟩ := range5 hr
      obtain ⟨s, t, v, nn, oo⟩ := p
      simp only at hst hps k0 k1 k2 k3 k4
      have sI : (s.size : Int) ≤ 100000 := by omega
      have H6 : Hid (n + ((if b = true then 6 + s.size else 0) + 32) + roomR (prevS l (j + 1)) (l.drop (j + 1)) = roomD l) := Lib.hid (by omega)
      obtain ⟨W1, hW1⟩ : ∃ V, V = wr.alloc (.cells #[.string s, .int .i64 t, .int .i64 v, .int .u64 (nn : Int), .int .u16 (oo : Int)] 46) := ⟨_, rfl⟩
      have B1 : Hid (Below w0.heap.size w0 W1) := Lib.hid (by rw [hW1]; exact hwb.alloc hwb.size _)
      have q0 : W1.cell? ⟨wr.heap.size, 0, none⟩ = some (.string s) := by
        rw [hW1]
        exact (Blk.made wr 46 [.string s, .int .i64 t, .int .i64 v, .int .u64 (nn : Int), .int .u16 (oo : Int)]).cell 0
      have HC := Lib.hid (HBG.out W1 B1.out)
      clear hb hst hps hok hp hrs hg hwb hsum hd hl hj hlt hr
      go_upto_region 5 with (fail)
      rw [← hW1]
      clear hW1 k0 k1 k2 k3 k4
      go_wp2_with (fail)
      refine (HC.out).mono ?_
      rintro e w2 ⟨rfl, m, hw2⟩
      have B2 : Hid (Below w0.heap.size w0 w2) := Lib.hid (by rw [hw2]; exact below_drewN B1.out m)
      have q2 : w2.cell? ⟨wr.heap.size, 0, none⟩ = some (.string s) := by rw [hw2]; exact q0
      clear q0 hw2 HC
      cases b with
      | true =>
        have h6 : n + (6 + s.size + 32) + roomR (prevS l (j + 1)) (l.drop (j + 1)) = roomD l := H6.out
        have H7 := Lib.hid h6
        clear h6 H6
        go_wp2_with (fail)
        refine ⟨⟨j + 1, n + (6 + s.size) + 32, by go_num, by go_num, HLT.out, by have := H7.out; omega, B2.out⟩, by have := HLT.out; simp [intOf]; omega⟩
      | false =>
        have h6 : n + 32 + roomR (prevS l (j + 1)) (l.drop (j + 1)) = roomD l := by
          have := H6.out
          simp at this
          exact this
        have H7 := Lib.hid h6
        clear h6 H6
        go_wp2_with (fail)
        refine ⟨⟨j + 1, n + 32, by go_num, by go_num, HLT.out, by have := H7.out; omega, B2.out⟩, by have := HLT.out; simp [intOf]; omega⟩
    · have jI : ¬ (j : Int) < l.length := by omega
      have e : j = l.length := by omega
      subst e
      rw [List.drop_length, roomR, Nat.add_zero] at hsum
      subst hsum
      clear hwb hrs hd hl hj hlt
      go_wp2_with (fail)
      exact HQ.out _ _ _ _ _ _ _ _ _ _ _ _ _ _ _ _ _ _ _ _ HWB
set_option maxRecDepth 100000 in
set_option maxHeartbeats 4000000 in
theorem room_any (v : Value) (l : List Pc) (w : World) (h : RsP w v l) (hn : l.length ≤ 100000) (hs : ∀ p ∈ l, p.s.size ≤ 100000) :
    Calls Try.prog 11 #[v] w fun e w' => e = .returned (.int .i64 (roomD l : Int)) ∧ Below w.heap.size w w' := by
  obtain ⟨A, c, rfl, _⟩ := h.form
  have H := Lib.hid h
  have HN := Lib.hid (And.intro hn hs)
  clear h hn hs
  go_enter Try.func11, Try.ntmps11
  go_wp2_with (fail)
  refine dro_loop _ _ _ _ _ _ _ _ _ _ _ _ _ _ _ _ _ _ _ _ _ A c l w w (Lib.hid (Below.refl _ _)) H HN (Lib.hid ?_)
  intro u4 u5 u9 u10 u11 u12 u13 u14 u15 u16 u17 u18 u19 u20 u21 u22 u23 u24 y w' HB
  go_wp2_with (fail)
  go_ret
  exact ⟨rfl, HB.out⟩
end Go.Proofs.Ytcicdbhffkpldaa
