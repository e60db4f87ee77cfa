/- A row saved and appended without a fuse; rows that lie ahead of a store. Conditions: the row is short. -/
import Derived.Test.YtbodiioemohenaaDoorPart19
namespace Go.Proofs.YtbodiioemohenaaDoor
open Go.RowKit

theorem JOn.off {S : DS} {img : List UInt8} {n : Nat} {rs : List (List UInt8)} (h : JOn S img n rs) : JOff S := ⟨h.calm, fun i x h1 h2 h3 => by
  obtain ⟨s, hs⟩ := h.load
  rw [hs]
  exact h.low i x h1 h2 h3⟩
theorem plain_turn {S : DS} (h : JOff S) (h0 : S.fuse = 0) {m : Nat} (hm : mostS S 0 256 = m) (hm2 : m < 1000000) {b : List UInt8} (hb : b.length ≤ 300) {S1 S2 : DS} {e1 e2 : Nat} (h1 : saveS fp8 S 0 256 b false = (S1, e1)) (h2 : layS S1 512 (partsR b (m + 1) 0) = (S2, e2)) :
    e1 = 0 ∧ e2 = 0 ∧ S1.dead = false ∧ S1.ops ≤ S.ops + 257 ∧ JOff S2 ∧ S2.fuse = 0 ∧ mostS S2 0 256 = m + 1 ∧ S2.ops ≤ S.ops + 261 := by
  obtain ⟨a1, a2⟩ := save_none (wiped := false) fp8_length h.calm.on h0 (a := 0) (k := 256) (bs := b) (by decide) (by decide) (by omega)
  have b1 := jsave_done h (img := b) (by omega) (by rw [hm]; exact hm2) a1
  have o1 := (save_cases (wiped := false) fp8_length h.calm (a := 0) (k := 256) (bs := b) (by decide) (by decide) (by omega)).1
  rw [h1] at a1 a2 b1 o1
  rw [hm] at b1
  have b1 : JOn S1 b (m + 1) [] := b1
  have a2 : S1.fuse = 0 := a2
  have o1 : S1.ops ≤ S.ops + 256 + 1 := o1
  have hc := cntR_300 hb
  have hp : 512 + (partsR b (m + 1) 0).length ≤ 1024 := by rw [partsR_length]; omega
  obtain ⟨c1, c2⟩ := layS_none b1.calm.on a2 hp (append_short _ _ _)
  have d1 := jappend_done (b := b) b1 (by show 512 + _ ≤ _; omega) (Nat.lt_of_lt_of_le (Nat.succ_lt_succ hm2) (by decide)) (Nat.lt_of_le_of_lt hb (by decide)) c1
  have d1 : JOn (layS S1 512 (partsR b (m + 1) 0)).1 b (m + 1) [b] := d1
  have o2 := (lay_cases b1.calm.on hp (append_short _ _ _)).1
  rw [h2] at c1 c2 d1 o2
  have o2 : S2.ops ≤ S1.ops + (partsR b (m + 1) 0).length + 1 := o2
  rw [partsR_length] at o2
  exact ⟨a1, c1, b1.calm.on, o1, d1.off, c2, d1.most, by omega⟩
section
variable {DC : DiskW} {JC : JournC DC} {w0 : World} {sp dp : Value} {st : JS} {S : DS} {R : List (Value × List UInt8)} {W W' : World}
theorem JKeep.with_old (h : JKeep JC w0 sp dp st S R W) {v : Value} {xs : List UInt8} (hv : Rd w0 v xs) : JKeep JC w0 sp dp st S ((v, xs) :: R) W := by
  obtain ⟨F, h1, h2, h3, h4⟩ := h
  refine ⟨F, h1, h2, h3, fun q hq => ?_⟩
  rcases List.mem_cons.1 hq with rfl | hq
  · exact ⟨hv.below h3, old_beside h2 hv⟩
  · exact h4 q hq
theorem JKeep.less (h : JKeep JC w0 sp dp st S R W) {R' : List (Value × List UInt8)} (hR : ∀ q ∈ R', q ∈ R) : JKeep JC w0 sp dp st S R' W := by
  obtain ⟨F, h1, h2, h3, h4⟩ := h
  exact ⟨F, h1, h2, h3, fun q hq => h4 q (hR q hq)⟩
theorem jk_scrub (h : JKeep JC w0 sp dp st S R W) (hs : Salts w0) {v : Value} {bs : List UInt8} (hv : Rd w0 v bs) (hl : bs.length ≤ 20000) (hd : S.dead = false) (hm : mostS S 0 256 < 1000000) (ho : S.ops < 50000) (he : (scrubS S bs).2 = 0) :
    Calls Tryd.prog 16 #[sp, v] W fun e W' => e = .returned (.int .i64 0) ∧ JKeep JC w0 sp dp ⟨true, mostS (saveS fp8 S 0 256 bs true).1 0 256 + 1, 0, 512⟩ (scrubS S bs).1 R W' := by
  obtain ⟨F, h1, h2, h3, h4⟩ := h
  refine (JC.scrub h1 (hs.under h3 hs.1) (fun j hj => Nat.lt_of_lt_of_le hs.1 (h2 j hj)) v bs (hv.below h3) (old_beside h2 hv) hl hd hm ho he).mono ?_
  rintro e W' ⟨rfl, h6⟩
  exact ⟨rfl, JKeep.step h2 h3 h4 h6⟩
theorem jk_raw (RC : RawC DC) (h : DKeep DC w0 dp S R W) : Calls Tryd.prog 17 #[dp] W fun e W' => ∃ u, e = .returned u ∧ Rd W' u (rawS S) ∧ Below W.heap.size W W' := by
  obtain ⟨F, h1, _⟩ := h
  exact RC.raw h1
end
end Go.Proofs.YtbodiioemohenaaDoor
