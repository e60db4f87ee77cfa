/- Part 25 of the words that the laws share: DlRdW, DlRdX, NumZig, DlRoo, DlRun. No condition of its own: each theorem says its own. -/
import Derived.Test.YtcicdbhffkpldaaPart24
import Derived.Test.YtcicdbhffkpldaaPart17
import Derived.Test.YtcicdbhffkpldaaPart2
import Derived.Test.YtcicdbhffkpldaaPart3
import Derived.Test.YtcicdbhffkpldaaPart9
import Derived.Test.YtcicdbhffkpldaaPart4
import Derived.Laws.BitsAllLaws
import Derived.BigQuiet

/- Reading pieces by places: words for a reader's loops. Conditions: at most 100000 bytes. -/
namespace Go.Proofs.Ytcicdbhffkpldaa
open Go.RowKit

/-- A short form is read at a place. -/
structure AtS (w : World) (P : Program) (f : List UInt8) (t : TypeId) (v : Value) (B : Option Addr) (m d x u e : Nat) (a : Nat) : Prop where
  slice : ∀ W, (Instr.slice t v (some (.int .i64 (a : Int))) none none).run P W = .ok (.slice B m d) W
  call : Calls Try.prog 40 #[.slice B m d] w fun r w' => r = .returned (.tuple #[.int .u64 (x : Int), .int .i64 (u : Int), .int .i64 (e : Int)]) ∧ w = w'
  is : getS (f.drop a) = (x, u, e)
  good : e = 0 → a + u ≤ f.length ∧ 1 ≤ u ∧ x < 18446744073709551616
theorem getS_fit {b : List UInt8} {x u : Nat} (h : getS b = (x, u, 0)) : u ≤ b.length ∧ 1 ≤ u ∧ x < 18446744073709551616 := by
  obtain ⟨r, h1, h2, h3⟩ := getS_is h
  have h4 := (shortB_len 9 x).1
  have h5 := congrArg List.length h1
  rw [List.length_append] at h5
  exact ⟨by omega, by omega, h3⟩
theorem at_s {w : World} {v : Value} {f : List UInt8} (h : Rd w v f) (t e : TypeId) (i : TypeInfo) (ht : Try.prog.underlying t = some (.slice e)) (hi : Try.prog.info? e = some i) (h1 : i.size = 1) (a : Nat) (ha : a ≤ f.length) :
    ∃ B m d x u e, AtS w Try.prog f t v B m d x u e a := by
  obtain ⟨B, d, hr, hd⟩ := h.low (P := Try.prog) t e i ht hi h1 a ha
  obtain ⟨x, u, er, hg⟩ : ∃ x u er, getS (f.drop a) = (x, u, er) := ⟨_, _, _, rfl⟩
  have hc := getShort_any _ _ w hd
  rw [hg] at hc
  refine ⟨B, _, d, x, u, er, hr, hc, hg, fun e0 => ?_⟩
  subst e0
  have h2 := getS_fit hg
  rw [List.length_drop] at h2
  exact ⟨by omega, h2.2⟩
theorem pcR_1 {s : ByteArray} {t d v : Int} {b : List UInt8} {x u e : Nat} (h : getS b = (x, u, e)) (he : e ≠ 0) : pcR s t d v b = none := by
  unfold pcR
  rw [h, if_pos he]
theorem pcR_2 {s : ByteArray} {t d v : Int} {b : List UInt8} {x u x2 u2 e2 : Nat} (h : getS b = (x, u, 0)) (h2 : getS (b.drop u) = (x2, u2, e2)) (he : e2 ≠ 0) : pcR s t d v b = none := by
  unfold pcR
  rw [h]
  simp only [ne_eq, not_true_eq_false, if_false, h2]
  rw [if_pos he]
theorem pcR_3 {s : ByteArray} {t d v : Int} {b : List UInt8} {x u x2 u2 x3 u3 e3 : Nat} (h : getS b = (x, u, 0)) (h2 : getS (b.drop u) = (x2, u2, 0)) (h3 : getS ((b.drop u).drop u2) = (x3, u3, e3)) (he : e3 ≠ 0) : pcR s t d v b = none := by
  unfold pcR
  rw [h]
  simp only [ne_eq, not_true_eq_false, if_false, h2, h3]
  rw [if_pos he]
theorem pcR_4 {s : ByteArray} {t d v : Int} {b : List UInt8} {x u x2 u2 x3 u3 : Nat} (h : getS b = (x, u, 0)) (h2 : getS (b.drop u) = (x2, u2, 0)) (h3 : getS ((b.drop u).drop u2) = (x3, u3, 0)) (he : (((b.drop u).drop u2).drop u3).length < 2) : pcR s t d v b = none := by
  unfold pcR
  rw [h]
  simp only [ne_eq, not_true_eq_false, if_false, h2, h3]
  rw [if_pos he]
theorem pcR_5 {s : ByteArray} {t d v : Int} {b : List UInt8} {x u x2 u2 x3 u3 : Nat} (h : getS b = (x, u, 0)) (h2 : getS (b.drop u) = (x2, u2, 0)) (h3 : getS ((b.drop u).drop u2) = (x3, u3, 0)) (he : ¬ (((b.drop u).drop u2).drop u3).length < 2) :
    pcR s t d v b = some (⟨s, wr64 (t + wr64 (d + zagN x)), wr64 (v + zagN x2), x3, numB ((((b.drop u).drop u2).drop u3).take 2)⟩, wr64 (d + zagN x), (((b.drop u).drop u2).drop u3).drop 2) := by
  unfold pcR
  rw [h]
  simp only [ne_eq, not_true_eq_false, if_false, h2, h3]
  rw [if_neg he]
/-- A row under way: F is what is to come of the whole row; 'done' of it are read, k are to come. -/
structure RdP (f : List UInt8) (F : Option (List Pc × List UInt8)) (s : ByteArray) (pre : List Pc) (k a : Nat) (t d v : Int) (done : List Pc) : Prop where
  eq : F = (rowR s k t d v (f.drop a)).map fun q => (done ++ q.1, q.2)
  fits : a ≤ f.length
  few : pre.length + done.length ≤ a
  ok : ∀ p ∈ pre ++ done, p.Ok
  rt : -9223372036854775808 ≤ t ∧ t ≤ 9223372036854775807
  rd : -9223372036854775808 ≤ d ∧ d ≤ 9223372036854775807
  rv : -9223372036854775808 ≤ v ∧ v ≤ 9223372036854775807
theorem RdP.bad {f : List UInt8} {F : Option (List Pc × List UInt8)} {s : ByteArray} {pre done : List Pc} {k a : Nat} {t d v : Int} (h : RdP f F s pre (k + 1) a t d v done) (hp : pcR s t d v (f.drop a) = none) : F = none := by
  rw [h.eq, rowR, hp]
  rfl
theorem RdP.last {f : List UInt8} {F : Option (List Pc × List UInt8)} {s : ByteArray} {pre done : List Pc} {a : Nat} {t d v : Int} (h : RdP f F s pre 0 a t d v done) : F = some (done, f.drop a) := by
  rw [h.eq, rowR]
  simp
theorem RdP.next {f : List UInt8} {F : Option (List Pc × List UInt8)} {s : ByteArray} {pre done : List Pc} {k a b : Nat} {t d v d' : Int} {p : Pc} (h : RdP f F s pre (k + 1) a t d v done) (hs : s.size ≤ maxLen) (hp : pcR s t d v (f.drop a) = some (p, d', f.drop b)) (hb : b ≤ f.length) (hab : a < b) : RdP f F s pre k b p.t d' p.v (done ++ [p]) where
  eq := by
    rw [h.eq, rowR, hp]
    simp only
    cases rowR s k p.t d' p.v (f.drop b) with
    | none => rfl
    | some q => simp
  fits := hb
  few := by
    have := h.few
    rw [List.length_append, List.length_singleton]
    omega
  ok q hq := by
    rw [← List.append_assoc] at hq
    rcases List.mem_append.1 hq with h1 | h1
    · exact h.ok q h1
    · rw [List.mem_singleton.1 h1]
      exact (pcR_is hs hp).2.1
  rt := wf_i64 (pcR_is hs hp).2.1.t
  rd := by
    rw [(pcR_is hs hp).2.2.2]
    exact wr64_in _
  rv := wf_i64 (pcR_is hs hp).2.1.v
end Go.Proofs.Ytcicdbhffkpldaa

/- Reading rows of pieces by places: words for a reader's outer loop. No condition of its own. -/
namespace Go.Proofs.Ytcicdbhffkpldaa
open Go.RowKit

theorem runR_1 {b : List UInt8} {x u e : Nat} (h : getS b = (x, u, e)) (he : e ≠ 0) : runR b = none := by
  unfold runR
  rw [h, if_pos he]
theorem runR_2 {b : List UInt8} {x u : Nat} (h : getS b = (x, u, 0)) (he : (b.drop u).length < x) : runR b = none := by
  unfold runR
  rw [h]
  simp only [ne_eq, not_true_eq_false, if_false]
  rw [if_pos he]
theorem runR_3 {b : List UInt8} {x u y w e : Nat} (h : getS b = (x, u, 0)) (hl : ¬ (b.drop u).length < x) (h2 : getS ((b.drop u).drop x) = (y, w, e)) (he : e ≠ 0) : runR b = none := by
  unfold runR
  rw [h]
  simp only [ne_eq, not_true_eq_false, if_false, h2]
  rw [if_neg hl, if_pos he]
theorem runR_4 {b : List UInt8} {x u y w : Nat} (h : getS b = (x, u, 0)) (hl : ¬ (b.drop u).length < x) (h2 : getS ((b.drop u).drop x) = (y, w, 0)) (hr : rowR (strOf ((b.drop u).take x)) y 0 0 0 (((b.drop u).drop x).drop w) = none) : runR b = none := by
  unfold runR
  rw [h]
  simp only [ne_eq, not_true_eq_false, if_false, h2]
  rw [if_neg hl, hr]
theorem runR_5 {b c : List UInt8} {x u y w : Nat} {ps : List Pc} (h : getS b = (x, u, 0)) (hl : ¬ (b.drop u).length < x) (h2 : getS ((b.drop u).drop x) = (y, w, 0)) (hr : rowR (strOf ((b.drop u).take x)) y 0 0 0 (((b.drop u).drop x).drop w) = some (ps, c)) : runR b = some ((strOf ((b.drop u).take x), ps), c) := by
  unfold runR
  rw [h]
  simp only [ne_eq, not_true_eq_false, if_false, h2]
  rw [if_neg hl, hr]
theorem allR_snoc (R : List (ByteArray × List Pc)) (s : ByteArray) (ps : List Pc) : allR (R ++ [(s, ps)]) = allR R ++ ps := by
  unfold allR
  rw [List.map_append, List.flatten_append]
  simp
/-- Rows under way. -/
structure RnP (f : List UInt8) (F : Option (List (ByteArray × List Pc) × List UInt8)) (k a : Nat) (done : List (ByteArray × List Pc)) : Prop where
  eq : F = (runsR k (f.drop a)).map fun q => (done ++ q.1, q.2)
  fits : a ≤ f.length
  few : (allR done).length ≤ a
  ok : ∀ p ∈ allR done, p.Ok
theorem RnP.bad {f : List UInt8} {F : Option (List (ByteArray × List Pc) × List UInt8)} {k a : Nat} {done : List (ByteArray × List Pc)} (h : RnP f F (k + 1) a done) (hr : runR (f.drop a) = none) : F = none := by
  rw [h.eq, runsR, hr]
  rfl
theorem RnP.last {f : List UInt8} {F : Option (List (ByteArray × List Pc) × List UInt8)} {a : Nat} {done : List (ByteArray × List Pc)} (h : RnP f F 0 a done) : F = some (done, f.drop a) := by
  rw [h.eq, runsR]
  simp
theorem RnP.next {f : List UInt8} {F : Option (List (ByteArray × List Pc) × List UInt8)} {k a b : Nat} {done : List (ByteArray × List Pc)} {s : ByteArray} {ps : List Pc} (h : RnP f F (k + 1) a done) (hr : runR (f.drop a) = some ((s, ps), f.drop b)) (hb : b ≤ f.length) (hf : (allR done).length + ps.length ≤ b) (ho : ∀ p ∈ allR done ++ ps, p.Ok) : RnP f F k b (done ++ [(s, ps)]) where
  eq := by
    rw [h.eq, runsR, hr]
    simp only
    cases runsR k (f.drop b) with
    | none => rfl
    | some q => simp
  fits := hb
  few := by rw [allR_snoc, List.length_append]; exact hf
  ok := by rw [allR_snoc]; exact ho
theorem RdP.first {f : List UInt8} {s : ByteArray} {pre : List Pc} {k a : Nat} (ha : a ≤ f.length) (hf : pre.length ≤ a) (ho : ∀ p ∈ pre, p.Ok) : RdP f (rowR s k 0 0 0 (f.drop a)) s pre k a 0 0 0 [] where
  eq := by cases rowR s k 0 0 0 (f.drop a) <;> rfl
  fits := ha
  few := hf
  ok := by rw [List.append_nil]; exact ho
  rt := by decide
  rd := by decide
  rv := by decide
end Go.Proofs.Ytcicdbhffkpldaa

/- The contracts of the developers' Zig and Zag. Conditions: a number of int64; of uint64. -/
namespace Go.Proofs.Ytcicdbhffkpldaa
open Go.RowKit

theorem ones64 : BitVec.ofInt 64 (-1) = BitVec.allOnes 64 := by decide
theorem xor_ones (x : BitVec 64) : (x ^^^ BitVec.allOnes 64).toNat = 18446744073709551615 - x.toNat := by
  rw [BitVec.xor_allOnes, BitVec.toNat_not]
theorem u64_xor_ones {a : Nat} (h : a < 18446744073709551616) : bits .xor .u64 (a : Int) 18446744073709551615 = ((18446744073709551615 - a : Nat) : Int) := by
  have e : BitVec.ofInt 64 (18446744073709551615 : Int) = BitVec.allOnes 64 := by decide
  show IntKind.u64.wrap ((BitVec.ofInt 64 (a : Int) ^^^ BitVec.ofInt 64 (18446744073709551615 : Int)).toNat : Int) = _
  rw [e, xor_ones, ofInt_u64 a h, IntKind.wrap_u64]
  omega
theorem u64_xor_zero {a : Nat} (h : a < 18446744073709551616) : bits .xor .u64 (a : Int) 0 = (a : Int) := by
  have h1 := u64_xor_nat a 0 h (by omega)
  rw [Nat.xor_zero] at h1
  exact h1
theorem i64_xor_ones {a : Nat} (h : a < 9223372036854775808) : bits .xor .i64 (a : Int) (-1) = -(a : Int) - 1 := by
  show IntKind.i64.wrap ((BitVec.ofInt 64 (a : Int) ^^^ BitVec.ofInt 64 (-1)).toNat : Int) = _
  rw [ones64, xor_ones, ofInt_u64 a (by omega), IntKind.wrap_i64]
  omega
theorem i64_xor_zero {a : Nat} (h : a < 9223372036854775808) : bits .xor .i64 (a : Int) 0 = (a : Int) := by
  show IntKind.i64.wrap ((BitVec.ofInt 64 (a : Int) ^^^ BitVec.ofInt 64 (0 : Int)).toNat : Int) = _
  rw [BitVec.toNat_xor, ofInt_u64 a (by omega)]
  have e : (BitVec.ofInt 64 (0 : Int)).toNat = 0 := by decide
  rw [e, Nat.xor_zero, IntKind.wrap_i64]
  omega
set_option maxRecDepth 100000 in
theorem zig_any (z : Int) (h : -9223372036854775808 ≤ z ∧ z ≤ 9223372036854775807) (w : World) :
    Calls Try.prog 35 #[.int .i64 z] w fun e w' => e = .returned (.int .u64 (zigN z : Int)) ∧ w' = w := by
  have HZ : Hid (bits .xor .u64 (IntKind.u64.wrap (IntKind.u64.wrap z * 2)) (IntKind.u64.wrap (z / 9223372036854775808)) = (zigN z : Int)) := Lib.hid (by
    obtain ⟨a, ha⟩ : ∃ a : Nat, IntKind.u64.wrap (IntKind.u64.wrap z * 2) = (a : Int) ∧ a < 18446744073709551616 := by
      rw [IntKind.wrap_u64]
      exact ⟨((IntKind.u64.wrap z * 2) % 18446744073709551616).toNat, by omega, by omega⟩
    have ha1 := ha.1
    rw [IntKind.wrap_u64, IntKind.wrap_u64] at ha1
    rw [ha.1]
    unfold zigN
    by_cases h0 : 0 ≤ z
    · have e : IntKind.u64.wrap (z / 9223372036854775808) = 0 := by rw [IntKind.wrap_u64]; omega
      rw [e, u64_xor_zero ha.2, if_pos h0]
      omega
    · have e : IntKind.u64.wrap (z / 9223372036854775808) = 18446744073709551615 := by rw [IntKind.wrap_u64]; omega
      rw [e, u64_xor_ones ha.2, if_neg h0]
      omega)
  go_enter Try.func35, Try.ntmps35
  go_wp2_with (fail)
  go_ret
  rw [HZ.out]
  exact ⟨rfl, rfl⟩
set_option maxRecDepth 100000 in
theorem zag_any (n : Nat) (h : (n : Int) ≤ 18446744073709551615) (w : World) :
    Calls Try.prog 42 #[.int .u64 (n : Int)] w fun e w' => e = .returned (.int .i64 (zagN n)) ∧ w' = w := by
  have HZ : Hid (bits .xor .i64 ((n : Int) / 2) (wrap64 (-wrap64 (bits .and .u64 (n : Int) 1))) = zagN n) := Lib.hid (by
    have e1 : bits .and .u64 (n : Int) 1 = ((n % 2 : Nat) : Int) := by
      have h1 := u64_and_nat n 1 (by omega) (by omega)
      rw [Nat.and_one_is_mod] at h1
      exact h1
    have e2 : ((n : Int) / 2) = ((n / 2 : Nat) : Int) := by omega
    rw [e1, e2]
    unfold zagN
    by_cases h0 : n % 2 = 0
    · have e3 : wrap64 (-wrap64 ((0 : Nat) : Int)) = 0 := by kernel_rfl
      rw [if_pos h0, h0, e3]
      exact i64_xor_zero (a := n / 2) (by omega)
    · have h1 : n % 2 = 1 := by omega
      have e3 : wrap64 (-wrap64 ((1 : Nat) : Int)) = -1 := by kernel_rfl
      rw [if_neg h0, h1, e3]
      exact i64_xor_ones (a := n / 2) (by omega))
  go_enter Try.func42, Try.ntmps42
  go_wp2_with (fail)
  go_ret
  rw [HZ.out]
  exact ⟨rfl, rfl⟩
end Go.Proofs.Ytcicdbhffkpldaa

/- The fourteenth reference's Room. Conditions: a row of pieces, at most 1000, their series at most 1000 bytes. -/
namespace Go.Proofs.Ytcicdbhffkpldaa
open Go.RowKit

theorem RsP.drewR {w : World} {v : Value} {ps : List Pc} (h : RsP w v ps) (m : Nat) : RsP (w.drewN m) v ps := h.below (below_drewN (Below.refl _ w) m)
/-- The series ahead of a place. -/
def prevS (l : List Pc) : Nat → Option ByteArray
  | 0 => none
  | j + 1 => (l[j]?).map (·.s)
theorem room_step {l : List Pc} {j : Nat} {p : Pc} (hp : l[j]? = some p) : roomR (prevS l j) (l.drop j) = (if likeO (prevS l j) p then 0 else 6 + p.s.size) + 32 + roomR (prevS l (j + 1)) (l.drop (j + 1)) := by
  obtain ⟨hj, rfl⟩ := List.getElem?_eq_some_iff.1 hp
  rw [List.drop_eq_getElem_cons hj, roomR, prevS, hp]
  rfl
theorem roomR_le : ∀ (o : Option ByteArray) (l : List Pc), (∀ p ∈ l, p.s.size ≤ 1000) → roomR o l ≤ 1038 * l.length
  | _, [], _ => by simp [roomR]
  | o, p :: l, h => by
    have h1 := h p (List.mem_cons_self ..)
    have h2 := roomR_le (some p.s) l fun q hq => h q (List.mem_cons_of_mem _ hq)
    rw [roomR, List.length_cons]
    split <;> omega
noncomputable def body_rro : Code := (((Try.f12.body.map loopsOf).getD [])[0]?).getD .skip
set_option maxRecDepth 100000 in
set_option maxHeartbeats 4000000 in
theorem rro_loop (c1 c2 c5 c6 c7 c8 c9 c10 c11 c12 c13 c14 c15 c16 c17 c18 c19 c20 c21 c22 c23 c24 c25 c26 c27 c28 c29 c30 c31 c32 c33 c34 c35 c36 c37 c38 : Value) (A : Option Addr) (c : Nat) (l : List Pc) (w : World) (h0 : Hid (RsP w (.slice A l.length c) l)) (hn : Hid (l.length ≤ 1000 ∧ ∀ p ∈ l, p.s.size ≤ 1000)) {Q : Exit → Act → World → Prop}
    (HQ : Hid (∀ (u5 u6 u7 u8 u9 u10 u11 u12 u13 u14 u15 u16 u17 u18 u19 u20 u21 u22 u23 u24 u25 u26 u27 u28 u29 u30 u31 u32 u33 u34 u35 u36 u37 y : Value) (m : Nat), Q (.exit 0) ⟨List.toArray ((.slice A l.length c) :: c1 :: c2 :: (.int .i64 (roomD l : Int)) :: y :: u5 :: u6 :: u7 :: u8 :: u9 :: u10 :: u11 :: u12 :: u13 :: u14 :: u15 :: u16 :: u17 :: u18 :: u19 :: u20 :: u21 :: u22 :: u23 :: u24 :: u25 :: u26 :: u27 :: u28 :: u29 :: u30 :: u31 :: u32 :: u33 :: u34 :: u35 :: u36 :: u37 :: c38 :: []), []⟩ (w.drewN m))) :
    (Code.loop body_rro).wp Try.prog Q ⟨List.toArray ((.slice A l.length c) :: c1 :: c2 :: (.int .i64 4) :: (.int .i64 0) :: c5 :: c6 :: c7 :: c8 :: c9 :: c10 :: c11 :: c12 :: c13 :: c14 :: c15 :: c16 :: c17 :: c18 :: c19 :: c20 :: c21 :: c22 :: c23 :: c24 :: c25 :: c26 :: c27 :: c28 :: c29 :: c30 :: c31 :: c32 :: c33 :: c34 :: c35 :: c36 :: c37 :: c38 :: []), []⟩ w := by
  unfold body_rro
  conv => arg 2; arg 1; whnf
  go_loopw [3, 4] (fun x y wx => ∃ (j n m : Nat), y = .int .i64 (j : Int) ∧ x = .int .i64 (n : Int) ∧ j ≤ l.length ∧ n + roomR (prevS l j) (l.drop j) = roomD l ∧ wx = w.drewN m) (fun _ y _ => l.length - (intOf y).toNat)
  case atStart => exact ⟨0, 4, 0, rfl, rfl, Nat.zero_le _, rfl, rfl⟩
  case round =>
    obtain ⟨j, n, m, rfl, rfl, hj, hsum, hwm⟩ := hrel
    have hrs : RsP wr (.slice A l.length c) l := hwm ▸ h0.out.drewR m
    have HWM := Lib.hid hwm
    have hl := hn.out.1
    have hd : roomD l ≤ 4 + 1038 * 1000 := by
      unfold roomD
      have := roomR_le none l hn.out.2
      omega
    have pI : (l.length : Int) ≤ 9223372036854775807 := by omega
    have nI : (n : Int) ≤ 1100000 := by omega
    by_cases hlt : j < l.length
    · have jI : (j : Int) < l.length := by omega
      have HLT := Lib.hid hlt
      obtain ⟨p, hp⟩ : ∃ p, l[j]? = some p := ⟨_, List.getElem?_eq_getElem hlt⟩
      obtain ⟨g, o, rfl, hg, hr, hok⟩ := hrs.at2 hp
      have hc := (range5 hr).1
      have hst := room_step hp
      have hps := hn.out.2 p (List.mem_of_getElem? hp)
      obtain ⟨s, hs⟩ : ∃ s, s = p.s := ⟨_, rfl⟩
      rw [← hs] at hc hst hps
      have sI : (s.size : Int) ≤ 1000 := by omega
      by_cases hj0 : j = 0
      · subst hj0
        have h6 : n + (6 + s.size + 32) + roomR (prevS l 1) (l.drop 1) = roomD l := by
          rw [show likeO (prevS l 0) p = false from rfl] at hst
          simp only [Bool.false_eq_true, if_false, Nat.zero_add] at hst
          omega
        have H6 := Lib.hid h6
        have j0 : (0 : Int) < l.length := by omega
        have hc0 : wr.cell? ⟨g, o, none⟩ = some (.string s) := by rw [Nat.zero_mul, Nat.add_zero] at hc; exact hc
        clear h6 jI hc hs hst hps hr hok hp hrs hg hwm hsum hd hl hj hlt
        go_wp2_with (fail)
        go_quiet (fail)
        go_wp2_with (fail)
        refine ⟨⟨1, n + 6 + s.size + 32, _, by go_num, by go_num, HLT.out, by have := H6.out; omega, by rw [HWM.out, World.drewN_drewN]⟩, by simp [intOf]; omega⟩
      · obtain ⟨k, hjk⟩ : ∃ k, j = k + 1 := ⟨j - 1, by omega⟩
        have jw : IntKind.i64.wrap ((j : Int) - 1) = (k : Int) := by
          rw [IntWalk.i64_in _ (by omega)]
          omega
        have kI : (k : Int) < l.length := by omega
        have jn : ((j : Int) == 0) = false := by rw [beq_eq_false_iff_ne]; omega
        obtain ⟨q, hq⟩ : ∃ q, l[k]? = some q := ⟨_, List.getElem?_eq_getElem (by omega)⟩
        obtain ⟨g', o', he, _, hr', _⟩ := hrs.at2 hq
        obtain ⟨rfl, rfl⟩ : g = g' ∧ o = o' := by
          injection he with he
          injection he with h1 h2
          exact ⟨h1, h2⟩
        have hc' := (range5 hr').1
        obtain ⟨s', hs'⟩ : ∃ s', s' = q.s := ⟨_, rfl⟩
        rw [← hs'] at hc'
        have hlk : likeO (prevS l j) p = decide (s.toList = s'.toList) := by
          rw [hjk, prevS, hq, hs, hs']
          rfl
        rw [hlk] at hst
        by_cases hsame : s.toList = s'.toList
        · have g1 : (s.toList == s'.toList) = true := by rw [hsame]; exact beq_self_eq_true _
          have g2 : (s.toList != s'.toList) = false := by rw [bne, g1]; rfl
          have h6 : n + 32 + roomR (prevS l (j + 1)) (l.drop (j + 1)) = roomD l := by
            rw [decide_eq_true hsame] at hst
            simp only [if_true] at hst
            omega
          have H6 := Lib.hid h6
          clear hsame h6 hlk hs' hq he hr' hs hst hps hr hok hp hrs hg hwm hsum hd hl hj hlt hjk hj0
          go_wp2_with (fail)
          go_quiet (fail)
          go_wp2_with (fail)
          refine ⟨⟨j + 1, n + 32, _, by go_num, by go_num, HLT.out, by have := H6.out; omega, by rw [HWM.out, World.drewN_drewN]⟩, by simp [intOf]; omega⟩
        · have g1 : (s.toList == s'.toList) = false := by rw [beq_eq_false_iff_ne]; exact hsame
          have g2 : (s.toList != s'.toList) = true := by rw [bne, g1]; rfl
          have h6 : n + (6 + s.size + 32) + roomR (prevS l (j + 1)) (l.drop (j + 1)) = roomD l := by
            rw [decide_eq_false hsame] at hst
            simp only [Bool.false_eq_true, if_false] at hst
            omega
          have H6 := Lib.hid h6
          clear hsame h6 hlk hs' hq he hr' hs hst hps hr hok hp hrs hg hwm hsum hd hl hj hlt hjk hj0
          go_wp2_with (fail)
          go_quiet (fail)
          go_wp2_with (fail)
          refine ⟨⟨j + 1, n + 6 + s.size + 32, _, by go_num, by go_num, HLT.out, by have := H6.out; omega, by rw [HWM.out, World.drewN_drewN]⟩, by simp [intOf]; omega⟩
    · have jI : ¬ (j : Int) < l.length := by omega
      have e : j = l.length := by omega
      subst e
      rw [List.drop_length, roomR, Nat.add_zero] at hsum
      subst hsum
      clear hwm hrs hd hl hj hlt
      go_wp2_with (fail)
      have hw := HWM.out
      rw [hw]
      exact HQ.out _ _ _ _ _ _ _ _ _ _ _ _ _ _ _ _ _ _ _ _ _ _ _ _ _ _ _ _ _ _ _ _ _ _ _
set_option maxRecDepth 100000 in
set_option maxHeartbeats 4000000 in
theorem refRoom_any (v : Value) (l : List Pc) (w : World) (h : RsP w v l) (hn : l.length ≤ 1000) (hs : ∀ p ∈ l, p.s.size ≤ 1000) :
    Calls Try.prog 12 #[v] w fun e w' => e = .returned (.int .i64 (roomD l : Int)) ∧ ∃ m, w' = w.drewN m := by
  obtain ⟨A, c, rfl, _⟩ := h.form
  have H := Lib.hid h
  have HN := Lib.hid (And.intro hn hs)
  clear h hn hs
  go_enter Try.func12, Try.ntmps12
  go_wp2_with (fail)
  refine rro_loop _ _ _ _ _ _ _ _ _ _ _ _ _ _ _ _ _ _ _ _ _ _ _ _ _ _ _ _ _ _ _ _ _ _ _ _ A c l w H HN (Lib.hid ?_)
  intro u5 u6 u7 u8 u9 u10 u11 u12 u13 u14 u15 u16 u17 u18 u19 u20 u21 u22 u23 u24 u25 u26 u27 u28 u29 u30 u31 u32 u33 u34 u35 u36 u37 y m
  go_wp2_with (fail)
  go_ret
  exact ⟨rfl, m, rfl⟩
end Go.Proofs.Ytcicdbhffkpldaa

/- The rows of one series, by places. No program in sight, no condition. -/
namespace Go.Proofs.Ytcicdbhffkpldaa
open Go.RowKit

/-- How many pieces from a place on are of this series. -/
def twN (p : Pc) (l : List Pc) (k : Nat) : Nat := ((l.drop k).takeWhile (likeS p)).length
theorem like_self (p : Pc) : likeS p p = true := likeS_iff.2 rfl
theorem twN_yes {p q : Pc} {l : List Pc} {k : Nat} (h : l[k]? = some q) (e : q.s.toList = p.s.toList) : twN p l k = twN p l (k + 1) + 1 := by
  obtain ⟨hk, rfl⟩ := List.getElem?_eq_some_iff.1 h
  unfold twN
  rw [List.drop_eq_getElem_cons hk, List.takeWhile_cons_of_pos (by unfold likeS; exact decide_eq_true e), List.length_cons]
theorem twN_no {p q : Pc} {l : List Pc} {k : Nat} (h : l[k]? = some q) (e : q.s.toList ≠ p.s.toList) : twN p l k = 0 := by
  obtain ⟨hk, rfl⟩ := List.getElem?_eq_some_iff.1 h
  unfold twN
  rw [List.drop_eq_getElem_cons hk, List.takeWhile_cons_of_neg (by unfold likeS; rw [decide_eq_true_eq]; exact e)]
  rfl
theorem twN_end {p : Pc} {l : List Pc} {k : Nat} (h : l.length ≤ k) : twN p l k = 0 := by
  unfold twN
  rw [List.drop_eq_nil_of_le h]
  rfl
theorem twN_le (p : Pc) (l : List Pc) {k : Nat} (hk : k ≤ l.length) : k + twN p l k ≤ l.length := by
  have h := (List.takeWhile_prefix (l := l.drop k) (likeS p)).length_le
  rw [List.length_drop] at h
  unfold twN
  omega
/-- The row that begins at a place, and those behind it. -/
theorem runs_at {l : List Pc} {i : Nat} {p : Pc} (h : l[i]? = some p) : runs (l.drop i) = (l.drop i).take (twN p l i) :: runs (l.drop (i + twN p l i)) := by
  obtain ⟨hi, rfl⟩ := List.getElem?_eq_some_iff.1 h
  have e : l.drop i = l[i] :: l.drop (i + 1) := List.drop_eq_getElem_cons hi
  have h2 : (l.drop i).take (twN l[i] l i) = (l.drop i).takeWhile (likeS l[i]) := (List.prefix_iff_eq_take.1 (List.takeWhile_prefix _)).symm
  have h3 : l.drop (i + twN l[i] l i) = (l.drop i).dropWhile (likeS l[i]) := by
    rw [← List.drop_drop]
    conv => lhs; arg 2; rw [← List.takeWhile_append_dropWhile (p := likeS l[i]) (l := l.drop i)]
    exact List.drop_left
  rw [h2, h3, e, runs, List.takeWhile_cons_of_pos (like_self _), List.dropWhile_cons_of_pos (like_self _)]
theorem runB_at {l : List Pc} {i : Nat} {p : Pc} (h : l[i]? = some p) : runB ((l.drop i).take (twN p l i)) = sh p.s.size ++ (p.s.toList ++ (sh (twN p l i) ++ pcsB 0 0 0 ((l.drop i).take (twN p l i)))) := by
  have h1 : twN p l i = twN p l (i + 1) + 1 := twN_yes h rfl
  have h2 := twN_le p l (k := i + 1) (by have := (List.getElem?_eq_some_iff.1 h).1; omega)
  obtain ⟨hi, rfl⟩ := List.getElem?_eq_some_iff.1 h
  have e : l.drop i = l[i] :: l.drop (i + 1) := List.drop_eq_getElem_cons hi
  have h4 : (l[i] :: (l.drop (i + 1)).take (twN l[i] l (i + 1))).length = twN l[i] l i := by
    rw [List.length_cons, List.length_take, List.length_drop]
    omega
  have h3 : (l.drop i).take (twN l[i] l i) = l[i] :: (l.drop (i + 1)).take (twN l[i] l (i + 1)) := by rw [h1, e, List.take_succ_cons]
  rw [h3, runB, h4]
/-- What a row's pieces are held against: the time, the difference and the value ahead. -/
def Was (l : List Pc) (i j : Nat) (a d v : Int) : Prop :=
  (j = i ∧ a = 0 ∧ d = 0 ∧ v = 0) ∨ (j = i + 1 ∧ ∃ p, l[i]? = some p ∧ a = p.t ∧ d = p.t ∧ v = p.v) ∨ (∃ k p q, j = k + 2 ∧ i ≤ k ∧ l[k]? = some p ∧ l[k + 1]? = some q ∧ a = q.t ∧ d = wr64 (q.t - p.t) ∧ v = q.v)
theorem wr64_id {z : Int} (h : -9223372036854775808 ≤ z ∧ z ≤ 9223372036854775807) : wr64 z = z := IntWalk.i64_in _ h
theorem Was.next {l : List Pc} {i j : Nat} {a d v : Int} {p : Pc} (h : Was l i j a d v) (hp : l[j]? = some p) (hok : p.Ok) : Was l i (j + 1) p.t (wr64 (p.t - a)) p.v := by
  rcases h with ⟨rfl, rfl, rfl, rfl⟩ | ⟨rfl, q, hq, rfl, _, _⟩ | ⟨k, q, r, rfl, hk, hq, hr, rfl, _, _⟩
  · exact .inr (.inl ⟨rfl, p, hp, rfl, by rw [Int.sub_zero, wr64_id (wf_i64 hok.t)], rfl⟩)
  · exact .inr (.inr ⟨i, q, p, rfl, Nat.le_refl _, hq, hp, rfl, rfl, rfl⟩)
  · exact .inr (.inr ⟨k + 1, r, p, rfl, by omega, hr, hp, rfl, rfl, rfl⟩)
theorem pcs_at {l : List Pc} {j K : Nat} {a d v : Int} {p : Pc} (hp : l[j]? = some p) (hj : j < K) : pcsB a d v ((l.drop j).take (K - j)) = sh (zigN (wr64 (wr64 (p.t - a) - d))) ++ (sh (zigN (wr64 (p.v - v))) ++ (sh p.n ++ (leB 2 p.o ++ pcsB p.t (wr64 (p.t - a)) p.v ((l.drop (j + 1)).take (K - (j + 1)))))) := by
  obtain ⟨hi, rfl⟩ := List.getElem?_eq_some_iff.1 hp
  have e : K - j = (K - (j + 1)) + 1 := by omega
  rw [e, List.drop_eq_getElem_cons hi, List.take_succ_cons, pcsB]
theorem flat_len {l : List Pc} (hn : l.length ≤ 1000) (hs : ∀ p ∈ l, p.s.size ≤ 1000) : ((runs l).map runB).flatten.length ≤ 1038000 := by
  have h1 := runs_room (runs l) fun r hr => by
    obtain ⟨h2, p, ps, rfl, h3⟩ := runs_mem l r hr
    have h4 := hs p h3
    have h5 := sh_len2 (n := p.s.size) (by omega)
    have h6 := sh_len2 (n := (p :: ps).length) (by omega)
    have h7 := pcsB_len 0 0 0 (p :: ps)
    rw [runB, runRoom]
    simp only [List.length_append, str_len]
    omega
  have h2 := roomR_le none l hs
  rw [← room_runs] at h1
  omega
end Go.Proofs.Ytcicdbhffkpldaa
