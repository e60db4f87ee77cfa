/- The contract of the developers' add. Conditions: shares of 33 bytes in a row of the caller's own, at most 1000; a secret of 32 bytes; t and the draws at most 1000. -/
import Derived.Test.YtpegnafapjcanaaKAdd
namespace Go.Proofs.Ytpegnafapjcanaa
open Go.RowKit

def AdiRel (sec : List UInt8) (t : Nat) (draws : List UInt8) (L : List (List UInt8)) (base : Nat) (v : Value) (w : World) (sv : Value) (W : World) : Prop := ∃ i : Nat, sv = .int .i64 (i : Int) ∧ i ≤ 32 ∧ OwnR 33 W base 31 v (rows (addM sec t draws L i 0)) ∧ Chg (FB v) w W
set_option maxRecDepth 100000 in
set_option maxHeartbeats 4000000 in
theorem add_any (sec : List UInt8) (t : Nat) (draws : List UInt8) (L : List (List UInt8)) (base c TB : Nat) (A : Option Addr) (vd : Value) (w : World) (hs : sec.length = 32) (ht : 1 ≤ t) (ht2 : t ≤ 1000) (hn : L.length ≤ 1000) (hd : draws.length ≤ 1000) (h33 : ∀ l ∈ L, l.length = 33)
    (hT : Tab w TB) (hTF : ¬ FB (.slice A L.length c) TB) (hr : Rd w vd draws) (hrf : 0 < draws.length → ∀ k, vd.ownBlock = some k → ¬ FB (.slice A L.length c) k) (ho : OwnR 33 w base 31 (.slice A L.length c) (rows L)) :
    Calls Try.prog 19 #[.pointer (some ⟨TB, 0, none⟩), .slice A L.length c, arrV sec, .int .i64 (t : Int), vd] w fun e w' => e = .returned (.tuple #[]) ∧ OwnR 33 w' base 31 (.slice A L.length c) (rows (addAll sec t draws L)) ∧ Chg (FB (.slice A L.length c)) w w' := by
  have HS := Lib.hid hs
  have HT := Lib.hid ht
  have HT2 := Lib.hid ht2
  have HN := Lib.hid hn
  have HD := Lib.hid hd
  have HTF := Lib.hid hTF
  have HRF := Lib.hid hrf
  have HIK : Hid ((Try.prog.info? 23).map (·.size) = some 32) := Lib.hid (size_of info_key)
  have HSM : Hid ((sec.map bv).length = 32) := Lib.hid (by rw [List.length_map]; exact hs)
  have nI : (L.length : Int) ≤ 1000 := by omega
  obtain ⟨W0, hW0⟩ : ∃ W : World, W = w.alloc (.cells (sec.map bv).toArray 23) := ⟨_, rfl⟩
  have B0 : Hid (Blk W0 w.heap.size 23 (sec.map bv)) := Lib.hid (by rw [hW0]; exact Blk.made w _ _)
  have D0 : Hid (Below w.heap.size w W0) := Lib.hid (by rw [hW0]; exact (Below.refl _ _).alloc (Nat.le_refl _) _)
  have C0 : Hid (Chg (FB (.slice A L.length c)) w W0) := Lib.hid (chg_new D0.out)
  have O0 : Hid (OwnR 33 W0 base 31 (.slice A L.length c) (rows (addM sec t draws L 0 0))) := Lib.hid (by
    rw [addM_none sec t draws h33]
    exact (chg_new (F := fun _ => False) D0.out).ownR ho (fun _ _ h => h))
  have T0 : Hid (Tab W0 TB) := Lib.hid (Blk.below hT D0.out (Blk.lt hT))
  have R0 : Hid (Rd W0 vd draws) := Lib.hid (hr.below D0.out)
  clear hs ht ht2 hn hd h33 hT hTF hr hrf ho
  unfold arrV
  go_enter Try.func19, Try.ntmps19
  go_upto_region 1 with (fail)
  rw [← hW0]
  clear hW0
  go_wp2_with (refine wpList_load_blk rfl 23 (.tmp 7) rfl w.heap.size rfl 23 (sec.map bv) _ B0.out Try.underlying23 rfl (by rw [HSM.out]; exact HIK.out) ?_)
  go_loopw [15] (fun v wx => AdiRel sec t draws L base (.slice A L.length c) W0 v wx) (fun v _ => 32 - (intOf v).toNat)
  case atStart => exact ⟨0, rfl, by omega, O0.out, Chg.refl _ _⟩
  case round =>
    obtain ⟨i, rfl, hi, hown, hch⟩ := hrel
    have HOW := Lib.hid hown
    have HCH := Lib.hid hch
    clear hown hch
    by_cases hlt : i < 32
    · have hI : (i : Int) < 32 := by omega
      obtain ⟨y, hy⟩ : ∃ y, y = sec.getD i 0 := ⟨_, rfl⟩
      have HX : ∀ W, (Instr.index 23 (.agg (sec.map bv).toArray) (.int .i64 (i : Int))).run Try.prog W = .ok (.int .u8 (y.toNat : Int)) W := fun W => by
        rw [hy]
        exact index_key sec HS.out i hlt W
      have HY := Lib.hid hy
      have HK := Lib.hid hlt
      have HT0 : Hid (Tab wr TB) := Lib.hid (HCH.out.blk T0.out HTF.out)
      have HR : Hid (Rd wr vd draws) := Lib.hid (chg_rd0 HCH.out R0.out HRF.out)
      clear hy hlt hi
      go_wp2_with (fail)
      rw [HY.out]
      refine (poly_any sec i t vd draws wr HK.out HT.out HT2.out HR.out HD.out).mono ?_
      rintro e w2 ⟨s, rfl, l, hsl, hll, hg, hsb, hb2⟩
      have HSL := Lib.hid hsl
      have HLL := Lib.hid hll
      have HG := Lib.hid hg
      have HSB : Hid (∀ k, s.ownBlock = some k → ¬ FB (.slice A L.length c) k) := Lib.hid fun k hk hF => by
        have h1 := hsb k hk
        have h2 := (HOW.out.lt k hF).2
        omega
      have T2 : Hid (Tab w2 TB) := Lib.hid (Blk.below HT0.out hb2 (Blk.lt HT0.out))
      have O2 : Hid (OwnR 33 w2 base 31 (.slice A L.length c) (rows (addM sec t draws L i 0))) := Lib.hid ((chg_new (F := fun _ => False) hb2).ownR HOW.out (fun _ _ h => h))
      have L2 := Lib.hid hb2
      clear hsl hll hg hsb hb2
      go_wp2_with (fail)
      refine ads_loop _ _ _ _ _ _ _ _ _ _ _ _ _ _ _ _ _ _ _ _ _ _ _ _ _ _ _ _ _ _ _ _ _ _ _ _ _ _ _ _ _ _ _ _ sec t draws L i base c TB A s l w2 HK.out HN.out T2 HTF HSL HSB HLL HG O2 (Lib.hid ?_)
      intro u13 u26 u27 u28 u29 u30 u31 u32 u33 u34 u35 u36 u37 u38 u39 u40 u41 u42 u43 u44 u45 u46 u47 u48 w3 O3 C3
      have HC3 : Hid (Chg (FB (.slice A L.length c)) W0 w3) := Lib.hid (chg_more HCH.out (chg_more (chg_new L2.out) C3.out))
      clear T2 O2 L2 C3
      go_wp2_with (fail)
      go_roundw
      case rel => exact ⟨i + 1, by go_num, by have := HK.out; omega, O3.out, HC3.out⟩
      case measure => have := HK.out; simp [intOf]; omega
    · obtain rfl : i = 32 := by omega
      rw [addM_all] at HOW
      clear hi hlt
      go_wp2_with (fail)
      refine bodyPost_end (results_none rfl _ _ _) rfl ?_
      exact ⟨rfl, HOW.out, chg_more C0.out HCH.out⟩
end Go.Proofs.Ytpegnafapjcanaa
