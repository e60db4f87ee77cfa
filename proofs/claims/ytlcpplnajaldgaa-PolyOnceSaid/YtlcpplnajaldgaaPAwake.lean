/- The contract of the fifth law's awake: the document's example stands. Condition: a contract of poly.Tag. -/
import Derived.Test.YtlcpplnajaldgaaPolEx
import Derived.Test.YtlcpplnajaldgaaHexRef
import Derived.Test.YtlcpplnajaldgaaGen
import Derived.Lib.SlBytesConst
import Derived.Deep.MidRow
namespace Go.Proofs.Ytlcpplnajaldgaa
open Go.RowKit

/-- What the laws need of Tag: the tag of all parts' bytes, one behind the other. -/
def TagC : Prop := ∀ (k : List UInt8) (v : Value) (xss : List (List UInt8)) (w : World), k.length = 32 → (Rs w v xss ∨ (v = .slice none 0 0 ∧ xss = [])) → xss.length ≤ 3 → (∀ xs ∈ xss, xs.length ≤ 300) →
  Calls Try.prog 12 #[arrV k, v] w fun e w' => e = .returned (arrV (tagB k xss.flatten)) ∧ Below w.heap.size w w'
/-- A slice as a pointer to an array: it is long enough. -/
theorem wpList_to_ptr {P : Program} {ops : Array Oper} {rest : List Oper} {o : Oper} {a : Act} {w : World} {Q : Exit → Act → World → Prop} (hgd : o.guard = none) (ty : TypeId) (x : Operand) (ho : o.op = .sliceToArrayPointer ty x)
    (b off n l c : Nat) (e : TypeId) (hx : a.eval x = .slice (some ⟨b, off, none⟩) l c) (hu : P.underlying ty = some (.array n e)) (hl : n ≤ l)
    (h : wpList P ops Q rest (a.put o.dst (.pointer (some ⟨b, off, none⟩))) w) : wpList P ops Q (o :: rest) a w :=
  wpList_plain hgd fun K hK => by
    unfold Oper.wp execOp
    have e1 : ¬ l < n := by omega
    simp [ho, hx, Instr.arrayAt, underlying, hu, e1]
    exact hK _ _ h
theorem rd_lit (w : World) (t : TypeId) (xs : List UInt8) (hm : xs.length ≤ maxLen) : Rd (w.alloc (.cells (xs.map bv).toArray t (xs.length, xs.length + 1))) (.slice (some ⟨w.heap.size, 0, none⟩) xs.length xs.length) xs :=
  .inr ⟨w.heap.size, 0, xs.length, rfl, by simp, Nat.le_refl _, hm, fun i hi => by
    rw [Nat.zero_add, cell_of_row _ _ i _ t _ (heap_alloc_new w _)]
    simp [hi, bv]⟩
theorem rs_lit1 {w : World} {v : Value} {xs : List UInt8} {t : TypeId} (h : Rd w v xs) : Rs (w.alloc (.cells #[v] t)) (.slice (some ⟨w.heap.size, 0, none⟩) 1 1) [xs] := by
  refine ⟨w.heap.size, 1, rfl, by simp, fun i hi => ?_⟩
  obtain rfl : i = 0 := by simpa using hi
  refine ⟨v, ?_, h.alloc _⟩
  rw [cell_of_row _ w.heap.size 0 _ _ _ (heap_alloc_new w _)]
  rfl
theorem ex_unhex : unhexB [56, 53, 100, 54, 98, 101, 55, 56, 53, 55, 53, 53, 54, 100, 51, 51, 55, 102, 52, 52, 53, 50, 102, 101, 52, 50, 100, 53, 48, 54, 97, 56, 48, 49, 48, 51, 56, 48, 56, 97, 102, 98, 48, 100, 98, 50, 102, 100, 52, 97, 98, 102, 102, 54, 97, 102, 52, 49, 52, 57, 102, 53, 49, 98] = some exKey := by kernel_rfl
theorem ex_hex : hexB exTag = [97, 56, 48, 54, 49, 100, 99, 49, 51, 48, 53, 49, 51, 54, 99, 54, 99, 50, 50, 98, 56, 98, 97, 102, 48, 99, 48, 49, 50, 55, 97, 57] := by kernel_rfl
set_option maxRecDepth 100000 in
set_option maxHeartbeats 1000000 in
theorem polAwake_any (HT : TagC) (w : World) :
    Calls Try.prog 8 #[] w fun e w' => e = .returned (.bool true) ∧ Below w.heap.size w w' := by
  have kc := fun (w : World) (C : Array Value) (n c : Nat) => Lib.run_convert_bytes_const (P := Try.prog) w 24 5 C n c Try.underlying24 Try.underlying5
  have HI : Hid ((Try.prog.info? 29).map (·.size) = some 16) := by show _ = _; kernel_rfl
  have HIK : Hid ((Try.prog.info? 23).map (·.size) = some 32) := by show _ = _; kernel_rfl
  go_enter Try.func8, Try.ntmps8
  go_wp2_with (fail)
  refine (refUnhex_any _ _ (by decide +kernel)).mono ?_
  rintro e w1 h1
  have h2 : UnPost w (some exKey) e w1 := by rw [← ex_unhex]; exact h1
  obtain ⟨hb1, v1, rfl, hr1⟩ := h2
  have R1 := Lib.hid hr1
  have D1 := Lib.hid hb1
  clear h1 hb1 hr1
  obtain ⟨A, c, rfl, hc1, hc2, hA⟩ := R1.out.form
  obtain ⟨kb, off, rfl, hkl, hkc⟩ := hA (by decide)
  have RA : w1.rangeAt kb off (exKey.map bv) := fun j u hj => by
    rw [List.getElem?_map, Option.map_eq_some_iff] at hj
    obtain ⟨x, hx, rfl⟩ := hj
    obtain ⟨hl, rfl⟩ := List.getElem?_eq_some_iff.1 hx
    exact hkc j hl
  have HRA := Lib.hid RA
  clear hkc hA RA
  have e32 : exKey.length = 32 := rfl
  rw [e32] at hc1 ⊢
  have HIK2 : (Try.prog.info? 23).map (·.size) = some (exKey.map bv).length := by rw [List.length_map, e32]; exact HIK.out
  have HLD : ∀ (ops : Array Oper) (rest : List Oper) (o : Oper) (a : Act) (Q : Exit → Act → World → Prop), o.guard = none → o.op = .load 23 (.tmp 9) → a.eval (.tmp 9) = .pointer (some ⟨kb, off, none⟩) → wpList Try.prog ops Q rest (a.put o.dst (arrV exKey)) w1 → wpList Try.prog ops Q (o :: rest) a w1 :=
    fun ops rest o a Q hgd ho hx h => wpList_load_mid hgd 23 (.tmp 9) ho kb off hx (exKey.map bv) _ HRA.out Try.underlying23 rfl HIK2 h
  go_wp2_with (first
    | refine wpList_to_ptr rfl 23 _ rfl kb off 32 32 c _ rfl Try.underlying23 (Nat.le_refl _) ?_
    | refine HLD _ _ _ _ _ rfl rfl rfl ?_)
  have hrd := rd_lit w1 5 exTxt (by unfold maxLen; simp [exTxt])
  have hrs := rs_lit1 (t := 24) hrd
  rw [World.size_alloc] at hrs
  refine (HT exKey _ [exTxt] _ rfl (.inl hrs) (by decide) (by decide)).mono ?_
  rintro e w2 ⟨rfl, hb2⟩
  rw [show List.flatten [exTxt] = exTxt from rfl, tag_example]
  have D2 : Hid (Below w.heap.size w w2) := Lib.hid ((((D1.out.alloc D1.out.size _).alloc (by have := D1.out.size; simp; omega) _)).trans (hb2.mono (by have := D1.out.size; simp; omega)))
  have HM := Lib.hid (Blk.made w2 29 (List.replicate 16 (Value.int .u8 0)))
  have HL : Hid ((exTag.map bv).length = 16) := Lib.hid rfl
  clear hb2 hrd hrs
  go_wp2_with (refine wpList_store_blk rfl 29 _ _ rfl w2.heap.size 29 _ HM.out (exTag.map bv) rfl rfl (by rw [HL.out]; rfl) (by rw [HL.out]; exact HI.out) (bv_one _) ?_; intro w3 hb3 hs3)
  have hrd := hb3.rd 16 16 (by decide) (by omega) (by unfold maxLen; omega)
  rw [List.take_of_length_le (by decide)] at hrd
  have D3 : Hid (Below w.heap.size w w3) := Lib.hid ((D2.out.alloc D2.out.size (.cells (List.replicate 16 (Value.int .u8 0)).toArray 29)).trans (hs3.below.mono D2.out.size))
  have HR := Lib.hid hrd
  clear hb3 hs3 hrd
  go_wp2_with (fail)
  refine (refHex_any _ exTag _ HR.out (by decide)).mono ?_
  rintro e w4 ⟨rfl, n, rfl⟩
  rw [ex_hex]
  go_wp2_with (fail)
  go_ret
  exact ⟨rfl, below_drewN D3.out n⟩
end Go.Proofs.Ytlcpplnajaldgaa
