/- The contract of the developers' checkPlaces: what is wrong with the places of shares. Conditions: shares of 33 bytes, at most 1000. -/
import Derived.Test.YtpegnafapjcanaaSRefP
import Derived.Test.YtpegnafapjcanaaSRefC
import Derived.Test.YtpegnafapjcanaaShVal
import Derived.Test.YtpegnafapjcanaaBlk
import Derived.Deep.MidRow
import Derived.Deep.Cut
namespace Go.Proofs.Ytpegnafapjcanaa
open Go.RowKit

/-- Which places stand among the first i shares. -/
def hasX (L : List (List UInt8)) (i x : Nat) : Bool := (List.range i).any fun q => (XP L q).toNat == x
def tkX (L : List (List UInt8)) (i : Nat) : List Value := (List.range 256).map fun x => Value.bool (hasX L i x)
theorem hasX_iff (L : List (List UInt8)) (i : Nat) (y : UInt8) : hasX L i y.toNat = true ↔ ∃ q, q < i ∧ XP L q = y := by
  unfold hasX
  rw [List.any_eq_true]
  constructor
  · rintro ⟨q, h1, h2⟩
    exact ⟨q, List.mem_range.1 h1, UInt8.toNat_inj.1 (beq_iff_eq.1 h2)⟩
  · rintro ⟨q, h1, h2⟩
    exact ⟨q, List.mem_range.2 h1, by rw [h2]; exact beq_self_eq_true _⟩
theorem tkX_length (L : List (List UInt8)) (i : Nat) : (tkX L i).length = 256 := by simp [tkX]
theorem tkX_get (L : List (List UInt8)) (i : Nat) {x : Nat} (h : x < 256) : (tkX L i)[x]? = some (.bool (hasX L i x)) := by
  unfold tkX
  rw [List.getElem?_map, List.getElem?_range h]
  rfl
theorem tkX_set (L : List (List UInt8)) (i : Nat) : (tkX L i).set (XP L i).toNat (.bool true) = tkX L (i + 1) := by
  have hs : ∀ x, hasX L (i + 1) x = (hasX L i x || (XP L i).toNat == x) := fun x => by
    unfold hasX
    rw [List.range_succ, List.any_append]
    simp
  have h := range_set (fun x => Value.bool (hasX L i x)) (fun x => Value.bool (hasX L (i + 1) x)) 256 (XP L i).toNat (fun x _ hx => by
    have e : ((XP L i).toNat == x) = false := by rw [beq_eq_false_iff_ne]; exact fun e => hx e.symm
    show Value.bool (hasX L i x) = Value.bool (hasX L (i + 1) x)
    rw [hs, e, Bool.or_false])
  have e : hasX L (i + 1) (XP L i).toNat = true := by rw [hs]; simp
  rw [e] at h
  exact h
theorem tkX_none (L : List (List UInt8)) : tkX L 0 = List.replicate 256 (.bool false) := by
  apply List.ext_getElem
  · rw [tkX_length, List.length_replicate]
  · intro k h1 h2
    have h := tkX_get L 0 (x := k) (by rw [tkX_length] at h1; exact h1)
    rw [List.getElem?_eq_getElem h1] at h
    rw [Option.some.inj h, List.getElem_replicate]
    rfl
def CkRel (L : List (List UInt8)) (w : World) (e v : Value) (W : World) : Prop := ∃ i : Nat, v = .int .i64 (i : Int) ∧ i ≤ L.length ∧ (∀ q, q < i → XP L q ≠ 0) ∧ EvIs e (TwTo L i 0) ∧ Blk W w.heap.size 60 (tkX L i) ∧ Below w.heap.size w W
set_option maxRecDepth 100000 in
set_option maxHeartbeats 4000000 in
theorem places_any (v : Value) (L : List (List UInt8)) (w : World) (hr : Rf 33 w v L) (hn : L.length ≤ 1000) :
    Calls Try.prog 22 #[v] w fun e w' => e = .returned (.int .i64 (placesB L : Int)) ∧ Below w.heap.size w w' := by
  obtain ⟨A, c, rfl, hc1, hc2, hA⟩ := hr.form
  have HA := Lib.hid hA
  have HR := Lib.hid hr
  have nI : (L.length : Int) ≤ 1000 := by omega
  have HN := Lib.hid hn
  have HIS : Hid ((Try.prog.info? 31).map (·.size) = some 33) := Lib.hid (size_of info_share)
  have HZ : Hid ((Try.prog.info? 31).bind (·.zero) = some (.agg (zeros33.map bv).toArray)) := Lib.hid (zero_of info_share)
  have HZL : Hid ((zeros33.map bv).length = 33) := Lib.hid (by simp [zeros33])
  have HZT : Hid ((Try.prog.info? 60).bind (·.zero) = some (.agg (tkX L 0).toArray)) := Lib.hid (by rw [tkX_none]; kernel_rfl)
  obtain ⟨W0, hW0⟩ : ∃ W : World, W = w.alloc (.cells (tkX L 0).toArray 60) := ⟨_, rfl⟩
  have T0 : Hid (Blk W0 w.heap.size 60 (tkX L 0)) := Lib.hid (by rw [hW0]; exact Blk.made w _ _)
  have D0 : Hid (Below w.heap.size w W0) := Lib.hid (by rw [hW0]; exact (Below.refl _ _).alloc (Nat.le_refl _) _)
  clear hA hr hn
  go_enter Try.func22, Try.ntmps22
  go_wp2_with (fail)
  go_step3
  go_wp2_with (refine wpList_alloc_z rfl 60 rfl _ HZT.out w.heap.size rfl ?_)
  rw [← hW0]
  clear hW0 HZT
  go_step3
  go_wp2_with (fail)
  go_loopw [4, 9] (fun e v wx => CkRel L w e v wx) (fun _ v _ => L.length - (intOf v).toNat)
  case atStart => exact ⟨0, rfl, by omega, fun q h => by omega, .inl ⟨rfl, by rintro (⟨q, j, _, h, _⟩ | ⟨q, h, _⟩) <;> omega⟩, T0.out, D0.out⟩
  case round =>
    obtain ⟨i, rfl, hi, hno, hev, hT, hb⟩ := hrel
    by_cases hlt : i < L.length
    · have hI : (i : Int) < L.length := by omega
      obtain ⟨b, off, rfl, hb1, hb3⟩ := HA.out (by omega)
      obtain ⟨sh, hsh⟩ : ∃ sh, sh = L.getD i [] := ⟨_, rfl⟩
      obtain ⟨x, hx⟩ : ∃ x, x = XP L i := ⟨_, rfl⟩
      have HSL : Hid (sh.length = 33) := Lib.hid (by rw [hsh]; exact len_get HR.out.1 hlt)
      have HSM : Hid ((sh.map bv).length = 33) := Lib.hid (by rw [List.length_map]; exact HSL.out)
      have HRG : Hid (wr.rangeAt b (off + i * 33) (sh.map bv)) := Lib.hid (by
        rw [hsh]
        exact el_range HR.out.1 (fun i j hi hj => (hb.cell (p := ⟨b, off + i * 33 + j, none⟩) hb1).trans (hb3 i j hi hj)) hlt)
      have HX0 : Hid ((sh.map bv)[0]? = some (.int .u8 (x.toNat : Int))) := Lib.hid (by
        have hl := HSL.out
        have h0 : sh[0]? = some (XP L i) := by
          show _ = some ((L.getD i []).getD 0 0)
          rw [← hsh, List.getD, List.getElem?_eq_getElem (by omega)]
          rfl
        rw [List.getElem?_map, h0, hx]
        rfl)
      obtain ⟨W1, hW1⟩ : ∃ W : World, W = wr.alloc (.cells (zeros33.map bv).toArray 31) := ⟨_, rfl⟩
      have K1 : Hid (Blk W1 wr.heap.size 31 (zeros33.map bv)) := Lib.hid (by rw [hW1]; exact Blk.made _ _ _)
      have T1 : Hid (Blk W1 w.heap.size 60 (tkX L i)) := Lib.hid (by rw [hW1]; exact hT.alloc _)
      have D1 : Hid (Below w.heap.size w W1) := Lib.hid (by rw [hW1]; exact hb.alloc hb.size _)
      have HNE : Hid (w.heap.size < wr.heap.size) := Lib.hid hT.lt
      have HI := Lib.hid hlt
      have HX := Lib.hid hx
      have HNO := Lib.hid hno
      have HEV := Lib.hid hev
      clear hb1 hb3 hsh hx hno hev hT hb hi hlt
      go_upto_region 6 with (first
        | refine wpList_load_mid rfl 31 (.tmp 11) rfl b (off + i * 33) rfl (sh.map bv) _ HRG.out Try.underlying31 rfl (by rw [HSM.out]; exact HIS.out) ?_
        | (refine wpList_alloc_z rfl 31 rfl _ HZ.out wr.heap.size rfl ?_
           rw [← hW1])
        | (refine wpList_store_blk rfl 31 _ _ rfl wr.heap.size 31 _ K1.out (sh.map bv) rfl rfl (by rw [HSM.out, HZL.out]) (by rw [HSM.out]; exact HIS.out) (bv_one _) ?_
           intro w2 hb2 hs2
           have K2 := Lib.hid hb2
           have T2 := Lib.hid (hs2.blk T1.out (Nat.ne_of_lt HNE.out))
           have D2 := Lib.hid (D1.out.trans (hs2.below.mono (Nat.le_of_lt HNE.out)))
           clear hb2 hs2))
      clear hW1 K1 T1 D1
      have c0 : w2.cell? ⟨wr.heap.size, 0, none⟩ = some (.int .u8 (x.toNat : Int)) := by rw [K2.out.cell]; exact HX0.out
      have xI : (x.toNat : Int) < 256 := by have := x.toNat_lt; omega
      by_cases hz : x = 0
      · have e1 : ((x.toNat : Int) == 0) = true := by rw [hz]; rfl
        have HP : Hid (placesB L = 1) := Lib.hid (by
          have h0 : NoughtIn L := ⟨i, HI.out, by rw [← hz]; exact HX.out.symm⟩
          rcases placesB_cases L with h | h | h
          · exact h.1
          · exact absurd h0 h.2.1
          · exact absurd h0 h.2.1)
        clear hz
        go_wp2_with (fail)
        rw [Exit.noGoto_ret]
        go_ret
        exact ⟨by rw [HP.out]; rfl, D2.out⟩
      · have e1 : ((x.toNat : Int) == 0) = false := by
          rw [beq_eq_false_iff_ne]
          exact fun h => hz (UInt8.toNat_inj.1 (by rw [show ((0 : UInt8).toNat) = 0 from rfl]; omega))
        have HNO2 : Hid (∀ q, q < i + 1 → XP L q ≠ 0) := Lib.hid fun q hq => by
          by_cases e : q = i
          · rw [e, ← HX.out]; exact hz
          · exact HNO.out q (by omega)
        have f1 : w2.frozen? ⟨w.heap.size, x.toNat, none⟩ = false := T2.out.free _
        have HT3 : Hid (Blk (w2.setCell ⟨w.heap.size, x.toNat, none⟩ (.bool true)) w.heap.size 60 (tkX L (i + 1))) := Lib.hid (by
          have h := T2.out.set x.toNat (.bool true)
          rw [HX.out, tkX_set, ← HX.out] at h
          exact h)
        have HD3 : Hid (Below w.heap.size w (w2.setCell ⟨w.heap.size, x.toNat, none⟩ (.bool true))) := Lib.hid (D2.out.setCell (p := ⟨w.heap.size, x.toNat, none⟩) (Nat.le_refl _) _)
        clear hz
        by_cases hh : hasX L i x.toNat = true
        · have c1 : w2.cell? ⟨w.heap.size, x.toNat, none⟩ = some (.bool true) := by rw [T2.out.cell, tkX_get L i x.toNat_lt, hh]
          have HD : Hid (TwTo L (i + 1) 0) := Lib.hid ((twTo_end L i).1 (by
            obtain ⟨q, h1, h2⟩ := (hasX_iff L i x).1 hh
            exact .inr ⟨q, h1, by rw [h2, HX.out]⟩))
          clear hh
          go_wp2_with (fail)
          have hl := HI.out
          refine ⟨⟨i + 1, by go_num, by omega, HNO2.out, .inr ⟨rfl, HD.out⟩, HT3.out, HD3.out⟩, by simp [intOf]; omega⟩
        · have hh2 : hasX L i x.toNat = false := by simpa using hh
          have c1 : w2.cell? ⟨w.heap.size, x.toNat, none⟩ = some (.bool false) := by rw [T2.out.cell, tkX_get L i x.toNat_lt, hh2]
          have HD : Hid (TwTo L i 0 ↔ TwTo L (i + 1) 0) := Lib.hid (by
            rw [← twTo_end L i]
            constructor
            · rintro (h | ⟨q, h1, _⟩)
              · exact .inl h
              · omega
            · rintro (h | ⟨q, h1, h2⟩)
              · exact .inl h
              · exact absurd ((hasX_iff L i x).2 ⟨q, h1, by rw [h2, HX.out]⟩) hh)
          clear hh hh2
          go_wp2_with (fail)
          have hl := HI.out
          refine ⟨⟨i + 1, by go_num, by omega, HNO2.out, HEV.out.iff HD.out, HT3.out, HD3.out⟩, by simp [intOf]; omega⟩
    · obtain rfl : i = L.length := by omega
      have hev2 := hev.iff (twTo_all L)
      have hz : ¬ NoughtIn L := fun ⟨q, h1, h2⟩ => hno q h1 h2
      have HB := Lib.hid hb
      rcases hev2 with ⟨rfl, hd⟩ | ⟨rfl, hd⟩
      · have HP : Hid (placesB L = 0) := Lib.hid (by
          rcases placesB_cases L with h | h | h
          · exact absurd h.2 hz
          · exact absurd h.2.2 hd
          · exact h.1)
        clear hev hno hz hd hb hT
        go_wp2_with (fail)
        rw [Exit.noGoto_ret]
        go_ret
        exact ⟨by rw [HP.out]; rfl, HB.out⟩
      · have HP : Hid (placesB L = 7) := Lib.hid (by
          rcases placesB_cases L with h | h | h
          · exact absurd h.2 hz
          · exact h.1
          · exact absurd hd h.2.2)
        clear hev hno hz hd hb hT
        go_wp2_with (fail)
        rw [Exit.noGoto_ret]
        go_ret
        exact ⟨by rw [HP.out]; rfl, HB.out⟩
end Go.Proofs.Ytpegnafapjcanaa
