/- Part 24 of the words that the laws share: DsT, DsR, DsN. No condition of its own: each theorem says its own. -/
import Derived.Test.YtnaccngcpjkmbaaDoorPart23
import Derived.Test.YtnaccngcpjkmbaaDoorPart2

/- A sector of a disk that is safe, or isn't there; both ways told; Read. Conditions: none of its own. -/
namespace Go.Proofs.YtnaccngcpjkmbaaDoor
open Go.RowKit

set_option maxRecDepth 100000 in
set_option maxHeartbeats 2000000 in
theorem sector_shut {w : World} {X : Nat} {a b c : Option Nat} {S : DS} (h : Dk w X a b c S) (k : Int) (hk : 0 ≤ k ∧ k < 1024) (bs : List UInt8) (hbs : bs.length = 128) (hv : wrF S.L k = none) (hs : safeB S.L k = bs) (t r : Bool) (ht : (toF S.L k).isSome = t) (hr : (!t) = r) :
    Calls Tryd.prog 29 #[.pointer (some ⟨X, 0, none⟩), .int .i64 k] w fun e w' => e = .returned (.tuple #[arrV bs, .bool r]) ∧ Below w.heap.size w w' := by
  obtain ⟨f, hf, hat⟩ := h.at
  have HA := Lib.hid hat
  obtain ⟨C, hC⟩ : ∃ C, C = w.heap.size := ⟨_, rfl⟩
  have HC := Lib.hid hC
  have HW : Hid ((wrF S.L k).isSome = false) := Lib.hid (by rw [hv]; rfl)
  have HF : Hid ((f k).getD (arrV z128) = arrV bs) := Lib.hid (by rw [hf, hs])
  have HT := Lib.hid ht
  have HU : Hid ((toF S.L k).getD unitV = unitV) := Lib.hid (by
    unfold toF
    cases getP S.L k with
    | none => rfl
    | some p =>
      show (if stP p then some unitV else none : Option Value).getD unitV = unitV
      split <;> rfl)
  have HB : Hid ((bs.map bv).length = 128) := Lib.hid (by rw [List.length_map]; exact hbs)
  have HZ : Hid ((z128.map bv).length = 128) := Lib.hid (by rw [List.length_map]; rfl)
  have HS : Hid ((Tryd.prog.info? 58).map (·.size) = some (bs.map bv).length) := Lib.hid (by rw [HB.out]; exact size128)
  obtain ⟨zz, hzz⟩ : ∃ zz, zz = z128 := ⟨_, rfl⟩
  rw [← hzz] at HZ
  have HV : Hid ((wrF S.L k).getD (arrV z128) = arrV zz) := Lib.hid (by rw [hv, hzz]; rfl)
  have HZZ := Lib.hid hzz
  have HSZ : Hid ((Tryd.prog.info? 58).map (·.size) = some (zz.map bv).length) := Lib.hid (by rw [HZ.out]; exact size128)
  have HR := Lib.hid hr
  clear h hat hC hbs hv hzz hf hs ht hr
  go_enter Tryd.func29, Tryd.ntmps29
  have hr := HR.out
  go_wp2_with (first
    | (with_reducible refine here_alloc ?_
       refine wpList_alloc_w rfl 58 rfl (zz.map bv) (by rw [HZZ.out]; exact zeroArr) C HC.out.symm ?_
       intro w1 k1 b1 z1
       have K1 := Lib.hid k1
       have B1 := Lib.hid (HC.out ▸ b1 : Below w.heap.size w w1)
       have Z1 := Lib.hid z1
       have c1 := (HA.out w1 B1.out).c1
       clear k1 b1 z1)
    | (with_reducible refine here_alloc ?_
       refine wpList_alloc_w rfl 58 rfl (zz.map bv) (by rw [HZZ.out]; exact zeroArr) (C + 1) Z1.out ?_
       intro w2 k2 b2 z2
       have K1' := Lib.hid (K1.out.below b2 (by omega))
       have K2 := Lib.hid k2
       have B2 := Lib.hid (B1.out.trans (b2.mono (by have := HC.out; omega)))
       have Z2 := Lib.hid z2
       clear k2 b2 z2 c1 K1 B1 Z1)
    | (with_reducible refine here_look ?_
       refine wpList_lookO_ok rfl _ _ 46 58 rfl Tryd.underlying46 zeroArr rfl (HA.out w1 B1.out).wr (wfI hk) rfl _ HV.out false HW.out ?_)
    | (with_reducible refine here_look ?_
       refine wpList_lookO_ok rfl _ _ 47 79 rfl Tryd.underlying47 zeroUnit rfl (HA.out w3 B3.out).to (wfI hk) rfl _ HU.out t HT.out ?_)
    | (with_reducible refine here_store ?_
       refine wpList_store_blk rfl 58 _ _ rfl (C + 1) 58 _ K2.out (zz.map bv) rfl rfl rfl HSZ.out (bv_one _) ?_
       intro w3 k3 s3
       have K1 := Lib.hid (s3.blk K1'.out (by omega))
       have B3 := Lib.hid (B2.out.trans (s3.below.mono (by have := HC.out; omega)))
       have Z3 := Lib.hid (s3.size.trans Z2.out)
       have c2 := (HA.out w3 B3.out).c2
       clear k3 s3 K2 B2 K1' Z2)
    | (with_reducible refine here_alloc ?_
       refine wpList_alloc_w rfl 79 rfl [] zeroUnit (C + 2) Z3.out ?_
       intro w4 k4 b4 z4
       have K4 := Lib.hid k4
       have K1 := Lib.hid (K1.out.below b4 (by omega))
       have B4 := Lib.hid (B3.out.trans (b4.mono (by have := HC.out; omega)))
       clear k4 b4 z4 B3 Z3 c2)
    | (with_reducible refine here_store ?_
       refine wpList_store_blk rfl 79 _ _ rfl (C + 2) 79 _ K4.out [] rfl rfl rfl size76 (fun v hv => by cases hv) ?_
       intro w5 k5 s5
       have K5 := Lib.hid (s5.blk K1.out (by omega))
       have B5 := Lib.hid (B4.out.trans (s5.below.mono (by have := HC.out; omega)))
       have c0 := (HA.out w5 B5.out).c0
       clear k5 s5 K4 B4 K1)
    | (with_reducible refine here_look ?_
       refine wpList_lookO rfl _ _ 46 58 rfl Tryd.underlying46 zeroArr rfl (HA.out w5 B5.out).sf (wfI hk) rfl _ HF.out ?_)
    | (with_reducible refine here_store ?_
       refine wpList_store_blk rfl 58 _ _ rfl C 58 _ K5.out (bs.map bv) rfl rfl (by rw [HB.out, HZ.out]) HS.out (bv_one _) ?_
       intro w9 hb9 hs9
       have K9 := Lib.hid hb9
       have B9 := Lib.hid (B5.out.trans (hs9.below.mono (Nat.le_of_eq HC.out.symm)))
       clear hb9 hs9 K5 B5))
  refine bodyPost_ret (v := .tuple #[arrV bs, .bool r]) ?_ rfl ⟨rfl, B9.out⟩
  exact results_blk_tmp (ty := 58) Tryd.results29 _ w9 C 58 (bs.map bv) _ _ rfl rfl K9.out Tryd.underlying58 rfl HS.out
theorem sector_any {w : World} {X : Nat} {a b c : Option Nat} {S : DS} (h : Dk w X a b c S) (k : Int) (hk : 0 ≤ k ∧ k < 1024) :
    Calls Tryd.prog 29 #[.pointer (some ⟨X, 0, none⟩), .int .i64 k] w fun e w' => e = .returned (.tuple #[arrV (sectB S.L k), .bool (sectW S.L k)]) ∧ Below w.heap.size w w' := by
  obtain ⟨h1, h2⟩ := sect_open h.opn k
  have hl := sectB_len h.ok k
  have hsl := safeB_len h.ok k
  cases hw : wrF S.L k with
  | none =>
    rw [hw] at h1 h2
    have h1 : arrV (sectB S.L k) = arrV (safeB S.L k) := h1
    have h2 : sectW S.L k = !(toF S.L k).isSome := h2
    rw [h1, h2]
    exact sector_shut h k hk _ hsl hw rfl _ _ rfl rfl
  | some v =>
    obtain ⟨p, hp, ho, rfl⟩ := wrF_some hw
    rw [hw] at h1 h2
    have h1 : arrV (sectB S.L k) = arrV p.now := h1
    have h2 : sectW S.L k = true := h2
    rw [h1, h2]
    exact sector_open h k hk _ (h.ok.full p (getP_plc hp).1).1 hw
end Go.Proofs.YtnaccngcpjkmbaaDoor

/- A disk's New, Read, Fuse. Conditions: none of their own. -/
namespace Go.Proofs.YtnaccngcpjkmbaaDoor
open Go.RowKit

theorem rd_blk128 {w : World} {B : Nat} {ty : TypeId} {bs : List UInt8} (h : Blk w B ty (bs.map bv)) (hl : bs.length = 128) : Rd w (.slice (some ⟨B, 0, none⟩) 128 128) bs := by
  refine .inr ⟨B, 0, 128, by rw [hl], h.lt, ?_, ?_, ?_⟩
  · omega
  · unfold maxLen
    omega
  · intro i hi
    rw [h.cell, Nat.zero_add, List.getElem?_map, List.getElem?_eq_getElem hi]
    rfl
theorem slice128 (C : Nat) (W : World) : (Instr.sliceAt 58 (.pointer (some ⟨C, 0, none⟩)) none none none).run Tryd.prog W = .ok (.slice (some ⟨C, 0, none⟩) 128 128) W := by
  obtain ⟨i0, hi0, hz0, hz1, hz2⟩ := info_parts info_u8
  have e1 : Tryd.prog.arrayLen 58 = 128 := by simp [Program.arrayLen, Tryd.underlying58]
  have e2 : Tryd.prog.elem 58 = 5 := by simp [Program.elem, Tryd.underlying58]
  have e3 : (sizeOf 5).run Tryd.prog W = .ok 1 W := by simp [sizeOf, typeInfo, hi0, hz1]
  rw [run_sliceAt_array_all W 58 ⟨C, 0, none⟩ (by rw [e1, e2]; exact Tryd.underlying58), e2, e3]
  simp [slicedAt, e1, Addr.add]
set_option maxRecDepth 100000 in
set_option maxHeartbeats 2000000 in
theorem dkRead_in {w : World} {X : Nat} {a b c : Option Nat} {S : DS} (h : Dk w X a b c S) (k : Int) (hk : 0 ≤ k ∧ k < 1024) (t : Bool) (ht : sectW S.L k = t) :
    Calls Tryd.prog 17 #[.pointer (some ⟨X, 0, none⟩), .int .i64 k] w fun e w' => ∃ u, e = .returned (.tuple #[u, .int .i64 (if t then 0 else 9)]) ∧ Rd w' u (if t then sectB S.L k else []) ∧ (∀ j, u.ownBlock = some j → w.heap.size ≤ j) ∧ Below w.heap.size w w' := by
  have HC := Lib.hid (sector_any h k hk)
  have HL := Lib.hid (sectB_len h.ok k)
  obtain ⟨bs, hbs⟩ : ∃ bs, bs = sectB S.L k := ⟨_, rfl⟩
  rw [← hbs] at HC HL ⊢
  rw [ht] at HC
  have g1 : decide (k < 0) = false := decide_eq_false (by omega)
  have g2 : decide (1024 ≤ k) = false := decide_eq_false (by omega)
  have HB : Hid ((bs.map bv).length = 128) := Lib.hid (by rw [List.length_map]; exact HL.out)
  have HS : Hid ((Tryd.prog.info? 58).map (·.size) = some (bs.map bv).length) := Lib.hid (by rw [HB.out]; exact size128)
  have HZ : Hid ((z128.map bv).length = 128) := Lib.hid (by rw [List.length_map]; rfl)
  obtain ⟨zz, hzz⟩ : ∃ zz, zz = z128 := ⟨_, rfl⟩
  rw [← hzz] at HZ
  have HZZ := Lib.hid hzz
  clear h hbs ht hzz
  cases t with
  | true =>
    go_enter Tryd.func17, Tryd.ntmps17
    go_wp2_with (fail)
    refine HC.out.mono ?_
    rintro e w1 ⟨rfl, b1⟩
    obtain ⟨C, hC⟩ : ∃ C, w1.heap.size = C := ⟨_, rfl⟩
    have HN := Lib.hid hC
    have B1 := Lib.hid b1
    have hsl := fun W => slice128 C W
    clear hC b1
    go_wp2_with (first
      | (with_reducible refine here_alloc ?_
         refine wpList_alloc_w rfl 58 rfl (zz.map bv) (by rw [HZZ.out]; exact zeroArr) C HN.out ?_
         intro w2 k2 b2 z2
         have K2 := Lib.hid k2
         have B2 := Lib.hid (HN.out ▸ b2 : Below w1.heap.size w1 w2)
         clear k2 b2 z2)
      | (with_reducible refine here_store ?_
         refine wpList_store_blk rfl 58 _ _ rfl C 58 _ K2.out (bs.map bv) rfl rfl (by rw [HB.out, HZ.out]) HS.out (bv_one _) ?_
         intro w3 k3 s3
         have K3 := Lib.hid k3
         have B3 := Lib.hid (B2.out.trans (s3.below.mono (Nat.le_of_eq HN.out)))
         clear k3 s3 B2 K2))
    go_ret2
    have hs := HN.out
    have h2 := B1.out.size
    refine ⟨_, rfl, rd_blk128 K3.out HL.out, fun j hj => ?_, B1.out.trans (B3.out.mono h2)⟩
    have hj : some C = some j := hj
    injection hj with hj
    rw [← hj, ← hs]
    exact h2
  | false =>
    go_enter Tryd.func17, Tryd.ntmps17
    go_wp2_with (fail)
    refine HC.out.mono ?_
    rintro e w1 ⟨rfl, b1⟩
    obtain ⟨C, hC⟩ : ∃ C, w1.heap.size = C := ⟨_, rfl⟩
    have HN := Lib.hid hC
    have B1 := Lib.hid b1
    clear hC b1
    go_wp2_with (first
      | (with_reducible refine here_alloc ?_
         refine wpList_alloc_w rfl 58 rfl (zz.map bv) (by rw [HZZ.out]; exact zeroArr) C HN.out ?_
         intro w2 k2 b2 z2
         have K2 := Lib.hid k2
         have B2 := Lib.hid (HN.out ▸ b2 : Below w1.heap.size w1 w2)
         clear k2 b2 z2)
      | (with_reducible refine here_store ?_
         refine wpList_store_blk rfl 58 _ _ rfl C 58 _ K2.out (bs.map bv) rfl rfl (by rw [HB.out, HZ.out]) HS.out (bv_one _) ?_
         intro w3 k3 s3
         have B3 := Lib.hid (B2.out.trans (s3.below.mono (Nat.le_of_eq HN.out)))
         clear k3 s3 B2 K2))
    go_ret2
    exact ⟨_, rfl, Rd.nil _, fun j hj => (by cases hj), B1.out.trans (B3.out.mono B1.out.size)⟩
set_option maxRecDepth 100000 in
set_option maxHeartbeats 1000000 in
theorem dkRead_out (X : Nat) (k : Int) (hk : k < 0 ∨ 1024 ≤ k) (w : World) :
    Calls Tryd.prog 17 #[.pointer (some ⟨X, 0, none⟩), .int .i64 k] w fun e w' => e = .returned (.tuple #[.slice none 0 0, .int .i64 1]) ∧ w' = w := by
  by_cases h1 : k < 0
  · have g1 : decide (k < 0) = true := decide_eq_true h1
    clear hk h1
    go_enter Tryd.func17, Tryd.ntmps17
    go_wp2_with (fail)
    go_ret2
    exact ⟨rfl, rfl⟩
  · have g1 : decide (k < 0) = false := decide_eq_false h1
    have g2 : decide (1024 ≤ k) = true := decide_eq_true (by omega)
    clear hk h1
    go_enter Tryd.func17, Tryd.ntmps17
    go_wp2_with (fail)
    go_ret2
    exact ⟨rfl, rfl⟩
set_option maxRecDepth 100000 in
set_option maxHeartbeats 1000000 in
theorem dkRead_nil (k : Int) (w : World) :
    Calls Tryd.prog 17 #[.pointer none, .int .i64 k] w fun e w' => e = .returned (.tuple #[.slice none 0 0, .int .i64 1]) ∧ w' = w := by
  go_enter Tryd.func17, Tryd.ntmps17
  go_wp2_with (fail)
  go_ret2
  exact ⟨rfl, rfl⟩
theorem dkRead_any {w : World} {X : Nat} {a b c : Option Nat} {S : DS} (h : Dk w X a b c S) (k : Int) :
    Calls Tryd.prog 17 #[.pointer (some ⟨X, 0, none⟩), .int .i64 k] w fun e w' => ∃ u, e = .returned (.tuple #[u, .int .i64 ((readS S k).2 : Int)]) ∧ Rd w' u (readS S k).1 ∧ (∀ j, u.ownBlock = some j → w.heap.size ≤ j) ∧ Below w.heap.size w w' := by
  rw [readS_sect]
  by_cases hk : k < 0 ∨ 1024 ≤ k
  · rw [if_pos hk]
    refine (dkRead_out X k hk w).mono ?_
    rintro e w' ⟨rfl, rfl⟩
    exact ⟨_, rfl, Rd.nil _, fun j hj => (by cases hj), Below.refl _ _⟩
  · rw [if_neg hk]
    have h1 := dkRead_in h k (by omega) _ rfl
    cases ht : sectW S.L k with
    | true =>
      rw [ht] at h1
      exact h1
    | false =>
      rw [ht] at h1
      exact h1
theorem zeroDisk : (Tryd.prog.info? 49).bind (·.zero) = some (.agg (dkV none none none newS).toArray) := by
  kernel_rfl
theorem dk_new {w : World} {X : Nat} (hb : Blk w X 49 (dkV none none none newS)) : Dk w X none none none newS :=
  ⟨hb, ⟨fun _ => none, fun _ => rfl, fun _ => rfl⟩, fun _ => rfl, fun _ => rfl, fun x hx => (by cases hx), fun x hx => (by cases hx), fun x hx => (by cases hx), ⟨rfl, rfl⟩, dok_new, opn_nil, by decide, by decide⟩
end Go.Proofs.YtnaccngcpjkmbaaDoor

/- A disk's New and Fuse; of a disk that is none: Write, Sync, Fuse, Dead, Ops, Raw, Copy. Conditions: none of their own. -/
namespace Go.Proofs.YtnaccngcpjkmbaaDoor
open Go.RowKit

set_option maxRecDepth 100000 in
set_option maxHeartbeats 1000000 in
theorem dkNew_any (w : World) : Calls Tryd.prog 7 #[] w fun e w' => e = .returned (.pointer (some ⟨w.heap.size, 0, none⟩)) ∧ Dk w' w.heap.size none none none newS ∧ Below w.heap.size w w' := by
  go_enter Tryd.func7, Tryd.ntmps7
  go_wp2_with (fail)
  go_ret
  refine ⟨rfl, dk_new ?_, (Below.refl _ _).alloc (Nat.le_refl _) _⟩
  exact Blk.made w _ _
set_option maxRecDepth 100000 in
set_option maxHeartbeats 1000000 in
theorem dkFuse_any {w : World} {X : Nat} {a b c : Option Nat} {S : DS} (h : Dk w X a b c S) (n : Int) (hn : (Lit.int .i64 n).wf = true) :
    Calls Tryd.prog 9 #[.pointer (some ⟨X, 0, none⟩), .int .i64 n] w fun e w' => e = .returned (.int .i64 ((fuseS S n).2 : Int)) ∧ Dk w' X a b c (fuseS S n).1 ∧ Sole w w' X := by
  have c5 : w.cell? ⟨X, 5, none⟩ = some (.bool S.dead) := by rw [h.blk.cell]; rfl
  have HC := Lib.hid (dkRefuses c5)
  have f3 := h.blk.free 3
  have c3 : w.cell? ⟨X, 3, none⟩ = some (.int .i64 (S.fuse : Int)) := by rw [h.blk.cell]; rfl
  have H := Lib.hid h
  have hn2 : n ≤ 9223372036854775807 := by
    simp [Lit.wf, IntKind.min, IntKind.max, IntKind.signed, IntKind.bits] at hn
    omega
  obtain ⟨d, hd⟩ : ∃ d, S.dead = d := ⟨_, rfl⟩
  rw [hd] at HC
  have HD := Lib.hid hd
  clear h c5 hd
  cases d with
  | true =>
    go_enter Tryd.func9, Tryd.ntmps9
    go_wp2_with (fail)
    refine HC.out.mono ?_
    rintro e w1 ⟨rfl, rfl⟩
    go_wp2_with (fail)
    go_ret
    have hd := HD.out
    unfold fuseS
    rw [if_pos hd]
    exact ⟨rfl, H.out, Sole.refl _ _⟩
  | false =>
    go_enter Tryd.func9, Tryd.ntmps9
    go_wp2_with (fail)
    refine HC.out.mono ?_
    rintro e w1 ⟨rfl, rfl⟩
    go_wp2_with (fail)
    all_goals
      have hle := h
      have hd := HD.out
      have E : fuseS S n = ({ S with fuse := n.toNat }, 0) := by
        unfold fuseS
        rw [if_neg (by rw [hd]; decide)]
      rw [E]
    · have HE : Hid (n.toNat = 0) := Lib.hid (by omega)
      clear hle h
      go_ret
      refine ⟨rfl, H.out.head (Sole.setCell _ X 3 _) rfl ?_ ?_ H.out.ops, Sole.setCell _ X 3 _⟩
      · have hb := H.out.blk.set 3 (.int .i64 0)
        unfold dkV
        rw [HE.out]
        exact hb
      · show ((n.toNat : Nat) : Int) ≤ _
        rw [HE.out]
        decide
    · have HE : Hid ((n.toNat : Int) = n) := Lib.hid (by omega)
      clear hle h
      go_ret
      refine ⟨rfl, H.out.head (Sole.setCell _ X 3 _) rfl ?_ ?_ H.out.ops, Sole.setCell _ X 3 _⟩
      · have hb := H.out.blk.set 3 (.int .i64 n)
        unfold dkV
        rw [HE.out]
        exact hb
      · show ((n.toNat : Nat) : Int) ≤ _
        rw [HE.out]
        exact hn2
section
variable (w : World)
set_option maxRecDepth 100000 in
set_option maxHeartbeats 1000000 in
theorem dkFuse_nil (n : Int) : Calls Tryd.prog 9 #[.pointer none, .int .i64 n] w fun e w' => e = .returned (.int .i64 10) ∧ w' = w := by
  go_enter Tryd.func9, Tryd.ntmps9
  go_wp2_with (fail)
  refine (dkRefuses_nil w).mono ?_
  rintro e w1 ⟨rfl, rfl⟩
  go_wp2_with (fail)
  go_ret
  exact ⟨rfl, rfl⟩
set_option maxRecDepth 100000 in
set_option maxHeartbeats 1000000 in
theorem dkSync_nil : Calls Tryd.prog 36 #[.pointer none] w fun e w' => e = .returned (.int .i64 10) ∧ w' = w := by
  go_enter Tryd.func36, Tryd.ntmps36
  go_wp2_with (fail)
  refine (dkRefuses_nil w).mono ?_
  rintro e w1 ⟨rfl, rfl⟩
  go_wp2_with (fail)
  go_ret
  exact ⟨rfl, rfl⟩
set_option maxRecDepth 100000 in
set_option maxHeartbeats 1000000 in
theorem dkWrite_nil (k : Int) (u : Value) : Calls Tryd.prog 18 #[.pointer none, .int .i64 k, u] w fun e w' => e = .returned (.int .i64 10) ∧ w' = w := by
  go_enter Tryd.func18, Tryd.ntmps18
  go_wp2_with (fail)
  refine (dkRefuses_nil w).mono ?_
  rintro e w1 ⟨rfl, rfl⟩
  go_wp2_with (fail)
  go_ret
  exact ⟨rfl, rfl⟩
set_option maxRecDepth 100000 in
set_option maxHeartbeats 1000000 in
theorem dkBoot_nil (u : Value) : Calls Tryd.prog 12 #[.pointer none, u] w fun e w' => e = .returned (.tuple #[]) ∧ w' = w := by
  go_enter Tryd.func12, Tryd.ntmps12
  go_wp2_with (fail)
  (try simp only [Exit.inBlock, Exit.then])
  refine bodyPost_ret (results_none rfl _ _ _) rfl ?_
  exact ⟨rfl, rfl⟩
set_option maxRecDepth 100000 in
set_option maxHeartbeats 1000000 in
theorem dkDead_nil : Calls Tryd.prog 11 #[.pointer none] w fun e w' => e = .returned (.bool false) ∧ w' = w := by
  go_enter Tryd.func11, Tryd.ntmps11
  go_wp2_with (fail)
  go_ret
  exact ⟨rfl, rfl⟩
end
end Go.Proofs.YtnaccngcpjkmbaaDoor
