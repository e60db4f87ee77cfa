/- The contract of the reference's Text: a wide number's digits in base 10, by parts of 16 bits. Conditions: its halves fit int64 and uint64. -/
import Derived.Test.YtenmdogalnhbjaaTextB
import Derived.Test.YtenmdogalnhbjaaDigits
namespace Go.Proofs.Ytenmdogalnhbjaa
open Go.RowKit

/-- A number of 64 bits behind j steps of 16 bits to the left, and its parts. -/
def shf (h : Nat) : Nat → Nat
  | 0 => h
  | j + 1 => shf h j * 65536 % 18446744073709551616
def parts (h : Nat) : Nat → List Nat
  | 0 => []
  | j + 1 => parts h j ++ [shf h j / 281474976710656 % 65536]
def val16 (cs : List Nat) : Nat := cs.foldl (fun n c => n * 65536 + c) 0
theorem shf_lt {h : Nat} (hh : h < 18446744073709551616) (j : Nat) : shf h j < 18446744073709551616 := by
  cases j with
  | zero => exact hh
  | succ j => exact Nat.mod_lt _ (by omega)
theorem parts_succ (h j : Nat) : parts h (j + 1) = parts h j ++ [shf h j / 281474976710656 % 65536] := rfl
theorem parts_length (h j : Nat) : (parts h j).length = j := by
  induction j with
  | zero => rfl
  | succ j ih => simp [parts, ih]
theorem parts_val {h l : Nat} (hh : h < 18446744073709551616) (hl : l < 18446744073709551616) : val16 (parts h 4 ++ parts l 4) = h * 18446744073709551616 + l := by
  simp only [parts, val16, shf, List.nil_append, List.cons_append, List.foldl_cons, List.foldl_nil]
  omega
theorem parts_lt (h j : Nat) : ∀ c ∈ parts h j, c < 65536 := by
  induction j with
  | zero => intro c hc; simp [parts] at hc
  | succ j ih =>
    intro c hc
    rw [parts, List.mem_append] at hc
    rcases hc with hc | hc
    · exact ih c hc
    · have : c = shf h j / 281474976710656 % 65536 := by simpa using hc
      omega

def AbsRel (w : World) (hi : Int) (H L : Nat) (s t : Value) (wx : World) : Prop :=
  s = .int .u64 H ∧ t = .int .u64 L ∧ Below w.heap.size w wx ∧ wx.cell? ⟨w.heap.size, 0, none⟩ = some (.int .i64 hi) ∧ w.heap.size < wx.heap.size
def PartRel (B : Nat) (wc : World) (pre : List Nat) (h : Nat) (s d i : Value) (wr : World) : Prop :=
  ∃ j : Nat, i = .int .i64 j ∧ s = .int .u64 (shf h j : Nat) ∧ j ≤ 4 ∧ wr.ownsRow B 23 1 d (pre ++ parts h j).length ((pre ++ parts h j).map uv) ∧ Below B wc wr
theorem part_value {h m j : Nat} (hm : m = shf h j) : Value.int .u64 ((m : Int) / 281474976710656 % 65536) = uv (shf h j / 281474976710656 % 65536) := by rw [← hm]; exact congrArg (Value.int .u64) (by omega)
theorem part_next {h m j : Nat} (hm : m = shf h j) : Value.int .u64 (IntKind.u64.wrap ((m : Int) * 65536)) = .int .u64 ((shf h (j + 1) : Nat) : Int) := by
  rw [shf, ← hm, IntKind.wrap_u64]
  exact congrArg (Value.int .u64) (by omega)

theorem val16_snoc (cs : List Nat) (c : Nat) : val16 (cs ++ [c]) = val16 cs * 65536 + c := by simp [val16]
def strOf : Value → Nat | .string s => s.size | _ => 0
def OutRel (B g cp : Nat) (D : List UInt8) (we : World) (o : Value) (wr : World) : Prop :=
  ∃ (f : Nat) (ds : List UInt8) (qs : List Nat), o = .string ⟨ds.toArray⟩ ∧ ds.length + f + 1 ≤ 39 ∧ qs.length = 8 ∧ (∀ c ∈ qs, c < 65536) ∧
    wr.ownsRow B 23 1 (.slice (some ⟨g, 0, none⟩) 8 cp) 8 (qs.map uv) ∧ val16 qs < 10 ^ (f + 1) ∧ Below B we wr ∧ decB (f + 1) (val16 qs) ++ ds = D
def InRel (B g cp : Nat) (qs : List Nat) (wo : World) (r an i : Value) (wr : World) : Prop :=
  ∃ (k m : Nat) (cs : List Nat), i = .int .i64 k ∧ r = .int .u64 m ∧ m < 10 ∧ k ≤ 8 ∧ an = .bool (decide (val16 (cs.take k) ≠ 0)) ∧ cs.length = 8 ∧ (∀ c ∈ cs, c < 65536) ∧
    wr.ownsRow B 23 1 (.slice (some ⟨g, 0, none⟩) 8 cp) 8 (cs.map uv) ∧ Below B wo wr ∧ val16 (cs.take k) * 10 + m = val16 (qs.take k) ∧ cs.drop k = qs.drop k
/-- One step of the division by ten. -/
theorem in_step {qs cs : List Nat} {k m c : Nat} (h8 : cs.length = 8) (hk : k < 8) (hc : cs[k]? = some c) (hv : val16 (cs.take k) * 10 + m = val16 (qs.take k)) (hd : cs.drop k = qs.drop k) :
    val16 ((cs.set k ((m * 65536 + c) / 10)).take (k + 1)) = val16 (cs.take k) * 65536 + (m * 65536 + c) / 10 ∧
    val16 ((cs.set k ((m * 65536 + c) / 10)).take (k + 1)) * 10 + (m * 65536 + c) % 10 = val16 (qs.take (k + 1)) ∧ (cs.set k ((m * 65536 + c) / 10)).drop (k + 1) = qs.drop (k + 1) := by
  have ho : qs[k]? = some c := by
    have h1 : (cs.drop k)[0]? = some c := by simpa using hc
    rw [hd] at h1
    simpa using h1
  have hol : k < qs.length := by
    rcases Nat.lt_or_ge k qs.length with h | h
    · exact h
    · rw [List.getElem?_eq_none h] at ho; cases ho
  have hoe : qs[k] = c := by rw [List.getElem?_eq_getElem hol] at ho; exact Option.some.inj ho
  have e1 : val16 ((cs.set k ((m * 65536 + c) / 10)).take (k + 1)) = val16 (cs.take k) * 65536 + (m * 65536 + c) / 10 := by
    rw [List.take_succ_eq_append_getElem (by simpa using by omega), val16_snoc, List.take_set_of_le (Nat.le_refl k)]
    simp only [List.getElem_set_self]
  refine ⟨e1, ?_, ?_⟩
  · rw [e1, List.take_succ_eq_append_getElem hol, val16_snoc, hoe, ← hv]
    omega
  · rw [List.drop_set_of_lt (by omega), ← List.drop_drop, ← List.drop_drop, hd]

theorem in_close {B g cp : Nat} {qs cs : List Nat} {wo wr : World} {k m c : Nat} {an : Bool} (h8 : cs.length = 8) (hk : k < 8) (hm : m < 10) (hc16 : c < 65536) (hcb : ∀ c ∈ cs, c < 65536)
    (hst : (wr.setCell ⟨g, k, none⟩ (uv ((m * 65536 + c) / 10))).ownsRow B 23 1 (.slice (some ⟨g, 0, none⟩) 8 cp) 8 ((cs.map uv).set k (uv ((m * 65536 + c) / 10)))) (bl : Below B wo wr) (hg : B ≤ g)
    (hs : val16 ((cs.set k ((m * 65536 + c) / 10)).take (k + 1)) * 10 + (m * 65536 + c) % 10 = val16 (qs.take (k + 1)) ∧ (cs.set k ((m * 65536 + c) / 10)).drop (k + 1) = qs.drop (k + 1))
    (han : an = decide (val16 ((cs.set k ((m * 65536 + c) / 10)).take (k + 1)) ≠ 0)) :
    InRel B g cp qs wo (.int .u64 (((m : Int) * 65536 + c) % 10)) (.bool an) (.int .i64 ((k : Int) + 1)) (wr.setCell ⟨g, k, none⟩ (.int .u64 (((m : Int) * 65536 + c) / 10))) := by
  have e1 : uv ((m * 65536 + c) / 10) = .int .u64 (((m : Int) * 65536 + c) / 10) := congrArg (Value.int .u64) (by omega)
  rw [← e1]
  refine ⟨k + 1, (m * 65536 + c) % 10, cs.set k ((m * 65536 + c) / 10), by go_num, by go_num, by omega, by omega, by rw [han], by simpa using h8, fun x hx => ?_, ?_, bl.setCell (by show B ≤ g; omega) _, hs.1, hs.2⟩
  · rcases List.mem_or_eq_of_mem_set hx with hx | rfl
    · exact hcb x hx
    · omega
  · rw [List.map_set]
    exact hst
theorem digit_str (m : Nat) (hm : m < 10) (ds : List UInt8) : (⟨#[48, 49, 50, 51, 52, 53, 54, 55, 56, 57]⟩ : ByteArray).extract m (m + 1) ++ ⟨ds.toArray⟩ = ⟨(UInt8.ofNat (48 + m) :: ds).toArray⟩ := by
  have h : ∀ k : Fin 10, (⟨#[48, 49, 50, 51, 52, 53, 54, 55, 56, 57]⟩ : ByteArray).extract k.val (k.val + 1) = ⟨#[UInt8.ofNat (48 + k.val)]⟩ := by decide +kernel
  have h1 := h ⟨m, hm⟩
  simp only at h1
  rw [h1]
  apply ByteArray.ext
  simp
theorem minus_str (ds : List UInt8) : (⟨#[45]⟩ : ByteArray) ++ ⟨ds.toArray⟩ = ⟨(45 :: ds).toArray⟩ := by
  apply ByteArray.ext
  simp
theorem dec_end {f n : Nat} {ds D : List UInt8} (hn : n / 10 = 0) (h : decB (f + 1) n ++ ds = D) : D = UInt8.ofNat (48 + n % 10) :: ds := by
  rw [decB, if_pos (by omega)] at h
  rw [← h, show n % 10 = n by omega]
  rfl
theorem dec_on {f n : Nat} {ds D : List UInt8} (hn : n / 10 ≠ 0) (hf : n < 10 ^ (f + 1)) (h : decB (f + 1) n ++ ds = D) : ∃ g, f = g + 1 ∧ n / 10 < 10 ^ (g + 1) ∧ decB (g + 1) (n / 10) ++ (UInt8.ofNat (48 + n % 10) :: ds) = D := by
  rw [decB, if_neg (by omega)] at h
  have h1 : n / 10 < 10 ^ f := Nat.div_lt_of_lt_mul (by rw [Nat.pow_succ] at hf; rw [Nat.mul_comm]; exact hf)
  cases f with
  | zero => simp at h1; omega
  | succ g => exact ⟨g, rfl, h1, by rw [← h]; simp⟩
theorem out_done {cs qs : List Nat} {k m : Nat} (hk : ¬ k < 8) (h8 : cs.length = 8) (q8 : qs.length = 8) (hv : val16 (cs.take k) * 10 + m = val16 (qs.take k)) (hm : m < 10) :
    cs.take k = cs ∧ val16 cs = val16 qs / 10 ∧ m = val16 qs % 10 := by
  have e1 : cs.take k = cs := List.take_of_length_le (by omega)
  have e2 : qs.take k = qs := List.take_of_length_le (by omega)
  rw [e1, e2] at hv
  exact ⟨e1, by omega, by omega⟩

set_option maxRecDepth 100000 in
set_option maxHeartbeats 1000000 in
theorem refText_any (hi lo : Int) (w : World) (h1 : -9223372036854775808 ≤ hi) (h2 : hi ≤ 9223372036854775807) (h3 : 0 ≤ lo) (h4 : lo ≤ 18446744073709551615) (H L : Nat) (hH : absH hi lo = H) (hL : absL hi lo = L) (D : List UInt8) (hD : D = decB 39 (H * 18446744073709551616 + L)) :
    Calls Try.prog 20 #[.agg #[.int .i64 hi, .int .u64 lo]] w (TxtPost w (sgn hi D)) := by
  have HD := Lib.hid hD
  clear hD
  go_enter Try.func20, Try.ntmps20
  go_wp2_with (fail)
  go_quiet (fail)
  go_upto_if 20 with fail
  go_cut [3, 4] (fun s t wx => AbsRel w hi H L s t wx)
  case first =>
    by_cases hp : 0 ≤ hi
    · have e1 : absH hi lo = hi := if_pos hp
      have e2 : absL hi lo = lo := if_pos hp
      rw [e1] at hH
      rw [e2] at hL
      subst hH hL
      go_wp2_with (fail)
      go_meet
      exact ⟨by rw [IntWalk.u64_in _ (by omega)], rfl, below_drewN ((Below.refl _ _).alloc (Nat.le_refl _) _) _, by simp, by simp⟩
    · by_cases hz : lo = 0
      · subst hz
        have e1 : absH hi 0 = -hi := by unfold absH; rw [if_neg hp, if_pos rfl]
        have e2 : absL hi 0 = 0 := by unfold absL; rw [if_neg hp, if_pos rfl]
        rw [e1] at hH
        rw [e2] at hL
        have HH := Lib.hid hH
        have HL := Lib.hid hL
        clear hH hL e1 e2
        go_wp2_with (fail)
        go_meet
        refine ⟨?_, ?_, below_drewN ((Below.refl _ _).alloc (Nat.le_refl _) _) _, by simp, by simp⟩
        · rw [← HH.out, IntKind.wrap_u64, IntKind.wrap_u64]
          exact congrArg (Value.int .u64) (by omega)
        · rw [← HL.out]
      · have e1 : absH hi lo = -hi - 1 := by unfold absH; rw [if_neg hp, if_neg hz]
        have e2 : absL hi lo = 18446744073709551616 - lo := by unfold absL; rw [if_neg hp, if_neg hz]
        rw [e1] at hH
        rw [e2] at hL
        have HH := Lib.hid hH
        have HL := Lib.hid hL
        clear hH hL e1 e2
        have hz0 : 0 < lo := by omega
        go_wp2_with (fail)
        go_meet
        refine ⟨?_, ?_, below_drewN ((Below.refl _ _).alloc (Nat.le_refl _) _) _, by simp, by simp⟩
        · rw [← HH.out, IntKind.wrap_u64, IntKind.wrap_u64, IntKind.wrap_u64]
          exact congrArg (Value.int .u64) (by omega)
        · rw [← HL.out, IntKind.wrap_u64]
          exact congrArg (Value.int .u64) (by omega)
  case rest =>
    obtain ⟨rfl, rfl, B1, hbox, sb⟩ := hcut
    have hab := abs_in hi lo h1 h2 h3 h4
    rw [hH, hL] at hab
    have hHb : Hid (H < 18446744073709551616) := by show H < 18446744073709551616; omega
    have hLb : Hid (L < 18446744073709551616) := by show L < 18446744073709551616; omega
    obtain ⟨i0, hi0, hz0, hz1, hz2⟩ := info_parts info_u64
    clear hab hH hL h1 h2 h3 h4
    obtain ⟨B, hBe⟩ : ∃ B, B = wc.heap.size := ⟨_, rfl⟩
    have SB : B ≤ wc.heap.size := by omega
    have sB : w.heap.size < B := by omega
    clear hBe
    go_wp2_with (fail)
    go_loopw [3, 5, 6] (fun s d i wr => PartRel B wc [] H s d i wr) (fun _ _ i _ => 4 - (intOf i).toNat)
    case atStart => exact ⟨0, rfl, rfl, by omega, World.ownsRow_nil _ _ _ _, Below.refl _ _⟩
    case round =>
      obtain ⟨j, rfl, rfl, hj, own, bl⟩ := hrel
      obtain ⟨m, hm⟩ : ∃ m, m = shf H j := ⟨_, rfl⟩
      rw [← hm]
      have hmb : (m : Int) ≤ 18446744073709551615 := by have := shf_lt hHb.out j; omega
      have HM := Lib.hid hm
      have hBs : B ≤ wr.heap.size := Nat.le_trans SB bl.size
      have HLN : Hid (([] ++ parts H j).length ≤ 8) := by
        show ([] ++ parts H j).length ≤ 8
        simp [parts_length]; omega
      clear hm
      by_cases hlt : j < 4
      · go_wp2_with (at_builtin
                     refine wpList_append_one _ _ _ rfl _ _ _ rfl B 23 i0 (.int .u64 0) 8 Try.underlying52 hi0 hz0 hz1 hz2 rfl rfl u5 _ _ rfl own rfl ?_ ?_ ?_ ?_
                     · have := HLN.out; unfold maxLen; omega
                     · have := HLN.out; omega
                     · exact hBs
                     intro v2 w2 own2 b2)
        go_roundw
        case rel =>
          rw [part_value HM.out] at own2
          refine ⟨j + 1, by go_num, part_next HM.out, by omega, ?_, bl.trans b2⟩
          rw [parts_succ H j, ← List.append_assoc, List.length_append, List.map_append]
          exact own2
        case measure => simp [intOf]; omega
      · have hj4 : j = 4 := by omega
        rw [hj4, List.nil_append] at own
        clear hj4
        have B2 := B1.trans (bl.mono (by omega))
        have hbox2 := (bl.cell (p := ⟨w.heap.size, 0, none⟩) sB).trans hbox
        obtain ⟨wd, hwd⟩ : ∃ W : World, W = wr := ⟨_, rfl⟩
        rw [← hwd] at own B2 hbox2 hBs ⊢
        have SB2 := hBs
        clear bl hbox sb B1 HM hmb hwd SB HLN hBs
        go_wp2_with (fail)
        go_loopw [4, 5, 7] (fun s d i wr => PartRel B wd (parts H 4) L s d i wr) (fun _ _ i _ => 4 - (intOf i).toNat)
        case atStart => exact ⟨0, rfl, rfl, by omega, by simpa [parts] using own, Below.refl _ _⟩
        case round =>
          clear own
          obtain ⟨j, rfl, rfl, hj, own, bl⟩ := hrel
          obtain ⟨m, hm⟩ : ∃ m, m = shf L j := ⟨_, rfl⟩
          rw [← hm]
          have hmb : (m : Int) ≤ 18446744073709551615 := by have := shf_lt hLb.out j; omega
          have HM := Lib.hid hm
          have hBs : B ≤ wr.heap.size := Nat.le_trans SB2 bl.size
          have HLN : Hid ((parts H 4 ++ parts L j).length ≤ 8) := by
            show (parts H 4 ++ parts L j).length ≤ 8
            simp [parts_length]; omega
          clear hm
          by_cases hlt : j < 4
          · go_wp2_with (at_builtin
                         refine wpList_append_one _ _ _ rfl _ _ _ rfl B 23 i0 (.int .u64 0) 8 Try.underlying52 hi0 hz0 hz1 hz2 rfl rfl u5 _ _ rfl own rfl ?_ ?_ ?_ ?_
                         · have := HLN.out; unfold maxLen; omega
                         · have := HLN.out; omega
                         · exact hBs
                         intro v2 w2 own2 b2)
            go_roundw
            case rel =>
              rw [part_value HM.out] at own2
              refine ⟨j + 1, by go_num, part_next HM.out, by omega, ?_, bl.trans b2⟩
              rw [parts_succ L j, ← List.append_assoc, List.length_append, List.map_append]
              exact own2
            case measure => simp [intOf]; omega
          · have hj4 : j = 4 := by omega
            rw [hj4] at own
            clear hj4
            have B3 := B2.trans (bl.mono (by omega))
            have hbox3 := (bl.cell (p := ⟨w.heap.size, 0, none⟩) sB).trans hbox2
            obtain ⟨we, hwe⟩ : ∃ W : World, W = wr := ⟨_, rfl⟩
            rw [← hwe] at own B3 hbox3 hBs ⊢
            clear bl hbox2 B2 HM hmb hwe SB2 HLN
            obtain ⟨qs, hqs⟩ : ∃ qs, qs = parts H 4 ++ parts L 4 := ⟨_, rfl⟩
            rw [← hqs] at own
            have HQ : Hid (qs.length = 8 ∧ (∀ c ∈ qs, c < 65536) ∧ val16 qs = H * 18446744073709551616 + L) := by
              rw [hqs]
              refine ⟨by simp [parts_length], fun c hc => ?_, parts_val hHb.out hLb.out⟩
              rcases List.mem_append.1 hc with hc | hc
              · exact parts_lt _ _ c hc
              · exact parts_lt _ _ c hc
            clear hqs
            rw [HQ.out.1] at own
            obtain ⟨g, cp, hu5, hg1, hg2⟩ := own.form (by omega)
            subst hu5
            have hcp : Hid (8 ≤ cp ∧ cp ≤ maxLen) := by
              rcases own.2 with ⟨h0, _⟩ | ⟨g', cp', cur, hv, _, _, hn, hcm, _⟩
              · cases h0
              · injection hv with e1 e2 e3
                subst e3
                exact ⟨hn, hcm⟩
            have hcp8 : 8 ≤ cp := hcp.out.1
            have hst : Hid (decB 39 (val16 qs) ++ [] = D) := by
              rw [HQ.out.2.2, HD.out]
              exact List.append_nil _
            have hv39 : Hid (val16 qs < 10 ^ 39) := by
              show val16 qs < 10 ^ 39
              rw [HQ.out.2.2]
              have := hHb.out
              have := hLb.out
              omega
            go_wp2_with (fail)
            go_loopw [8] (fun o wr => OutRel B g cp D we o wr) (fun o _ => 40 - strOf o)
            case atStart => exact ⟨38, [], qs, rfl, by simp, HQ.out.1, HQ.out.2.1, own, hv39.out, Below.refl _ _, hst.out⟩
            case round =>
              clear own hst hv39 HQ hg2 hBs
              obtain ⟨f, ds, ps, rfl, hf, hp8, hpb, own, hpv, bl, heq⟩ := hrel
              obtain ⟨wo, hwo⟩ : ∃ W : World, W = wr := ⟨_, rfl⟩
              rw [← hwo] at own bl ⊢
              have HF := Lib.hid hf
              have HP := Lib.hid (And.intro hp8 (And.intro hpb (And.intro hpv heq)))
              clear hwo hf hp8 hpb hpv heq
              go_wp2_with (fail)
              go_loopw [9, 10, 11] (fun r an i wr => InRel B g cp ps wo r an i wr) (fun _ _ i _ => 8 - (intOf i).toNat)
              case atStart => exact ⟨0, 0, ps, rfl, rfl, by omega, by omega, by simp [val16], HP.out.1, HP.out.2.1, own, Below.refl _ _, by simp [val16], rfl⟩
              case round =>
                clear own
                obtain ⟨k, m, cs, rfl, rfl, hm, hk, rfl, hc8, hcb, own, bl2, hv, hd⟩ := hrel
                have HV := Lib.hid hv
                have HDR := Lib.hid hd
                have HC8 := Lib.hid hc8
                have HCB := Lib.hid hcb
                by_cases hlt : k < 8
                · have kc : k < cs.length := by omega
                  obtain ⟨c, hce⟩ : ∃ c, cs[k] = c := ⟨_, rfl⟩
                  have hcc : Hid (cs[k]? = some c) := by rw [← hce]; exact List.getElem?_eq_getElem kc
                  have hc16 : c < 65536 := by rw [← hce]; exact hcb _ (List.getElem_mem _)
                  have hcell : wr.cell? ⟨g, k, none⟩ = some (.int .u64 (c : Int)) := by
                    rw [own.cellAt k (by omega), List.getElem?_map, hcc.out]
                    rfl
                  have hfz := own.frozenAt k
                  have HST := Lib.hid (own.stored k (uv ((m * 65536 + c) / 10)))
                  have HSP := Lib.hid (in_step hc8 hlt hcc.out hv hd)
                  obtain ⟨q, hq⟩ : ∃ q, q = val16 (cs.take k) := ⟨_, rfl⟩
                  rw [← hq]
                  have HQV := Lib.hid hq
                  clear hv hd hc8 hcb hce hq kc own
                  by_cases hq0 : q = 0
                  · have hb0 : decide (q ≠ 0) = false := by simpa using hq0
                    rw [hb0]
                    have HQ0 := Lib.hid hq0
                    clear hq0 hb0
                    go_wp2_with (fail)
                    refine ⟨in_close HC8.out hlt hm hc16 HCB.out HST.out.1 bl2 hg1 HSP.out.2 ?_, by simp [intOf]; omega⟩
                    rw [HSP.out.1, ← HQV.out, HQ0.out, Bool.eq_iff_iff]
                    simp only [decide_eq_true_eq]
                    omega
                  · have hb0 : decide (q ≠ 0) = true := by simpa using hq0
                    rw [hb0]
                    have HQ0 := Lib.hid hq0
                    clear hq0 hb0
                    go_wp2_with (fail)
                    refine ⟨in_close HC8.out hlt hm hc16 HCB.out HST.out.1 bl2 hg1 HSP.out.2 ?_, by simp [intOf]; omega⟩
                    rw [HSP.out.1, ← HQV.out]
                    have := HQ0.out
                    exact (decide_eq_true (by omega)).symm
                · have hdone := out_done hlt hc8 HP.out.1 hv hm
                  obtain ⟨hd1, hd2, hd3⟩ := hdone
                  rw [hd1]
                  have HD2 := Lib.hid hd2
                  have HD3 := Lib.hid hd3
                  have hm0 : (0 : Int) ≤ (m : Int) := by omega
                  have hm1 : (m : Int) + 1 ≤ 10 := by omega
                  have bl3 := bl.trans (bl2)
                  have hbox4 := (bl3.cell (p := ⟨w.heap.size, 0, none⟩) sB).trans hbox3
                  obtain ⟨q, hq⟩ : ∃ q, q = val16 cs := ⟨_, rfl⟩
                  rw [← hq]
                  have HQV := Lib.hid hq
                  clear hv hd hc8 hcb hq hd1 hd2 hd3
                  by_cases hq0 : q = 0
                  · have hb0 : decide (q ≠ 0) = false := by simpa using hq0
                    rw [hb0]
                    have HQ0 := Lib.hid hq0
                    clear hq0 hb0
                    have hdl : ds.length ≤ 39 := by have := HF.out; omega
                    have hq10 : Hid (val16 ps / 10 = 0) := by show val16 ps / 10 = 0; rw [← HD2.out, ← HQV.out, HQ0.out]
                    have HE := Lib.hid (dec_end hq10.out HP.out.2.2.2)
                    have BF := B3.trans (bl3.mono (by omega))
                    by_cases hneg : hi < 0
                    · go_wp2_with (fail)
                      go_ret
                      rw [sgn_neg hneg, HE.out, ← HD3.out]
                      refine ⟨congrArg (fun b => Ending.returned (Value.string b)) ?_, BF⟩
                      rw [digit_str m hm ds]
                      exact minus_str _
                    · go_wp2_with (fail)
                      go_ret
                      rw [sgn_pos (by omega), HE.out, ← HD3.out]
                      refine ⟨congrArg (fun b => Ending.returned (Value.string b)) ?_, BF⟩
                      exact digit_str m hm ds
                  · have hb0 : decide (q ≠ 0) = true := by simpa using hq0
                    rw [hb0]
                    have HQ0 := Lib.hid hq0
                    clear hq0 hb0
                    have hdl : ds.length ≤ 39 := by have := HF.out; omega
                    have hq10 : Hid (val16 ps / 10 ≠ 0) := by show val16 ps / 10 ≠ 0; rw [← HD2.out, ← HQV.out]; exact HQ0.out
                    have HE := Lib.hid (dec_on hq10.out HP.out.2.2.1 HP.out.2.2.2)
                    have HCC := Lib.hid (And.intro HC8.out HCB.out)
                    go_wp2_with (fail)
                    go_roundw
                    case rel =>
                      obtain ⟨g2, hg2, hg3, hg4⟩ := HE.out
                      have := HF.out
                      refine ⟨g2, UInt8.ofNat (48 + m) :: ds, cs, congrArg Value.string (digit_str m hm ds), by simp; omega, HCC.out.1, HCC.out.2, own, ?_, bl3, ?_⟩
                      · rw [HD2.out]; exact hg3
                      · rw [HD2.out, HD3.out]; exact hg4
                    case measure =>
                      rw [digit_str m hm ds]
                      show 40 - (UInt8.ofNat (48 + m) :: ds).toArray.size < 40 - ds.toArray.size
                      simp
                      omega
end Go.Proofs.Ytenmdogalnhbjaa
