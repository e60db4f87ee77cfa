/- Pieces of a call's own whose values are written one by one: words. No condition of its own. -/
import Derived.Test.YtcicdbhffkpldaaPart12
import Derived.Test.YtcicdbhffkpldaaPart3
import Derived.Test.YtcicdbhffkpldaaRowI
namespace Go.Proofs.Ytcicdbhffkpldaa
open Go.RowKit

/-- A row of the call's own: pieces that are the same but for their values. -/
structure DevS (w0 : World) (u : Value) (l ms : List Pc) (V : World) : Prop where
  same : SameBut l ms
  ok : ∀ p ∈ ms, p.Ok
  own : OwnR 5 V w0.heap.size 46 u (pcRows ms)
  old : Below w0.heap.size w0 V
theorem same_len {l m : List Pc} (h : SameBut l m) : m.length = l.length := by
  have := congrArg List.length h
  simpa using this.symm
theorem ownR_some {w : World} {base n c : Nat} {e : TypeId} {A : Option Addr} {ms : List Pc} (h : OwnR 5 w base e (.slice A n c) (pcRows ms)) {i : Nat} (hi : i < ms.length) : ∃ g, A = some ⟨g, 0, none⟩ ∧ base ≤ g := by
  rcases h.2.2 with ⟨h0, h1⟩ | ⟨g, cap, cur, hv, h2⟩
  · rw [pcRows_len] at h1
    omega
  · injection hv with h3
    subst h3
    exact ⟨g, rfl, (h.lt g rfl).1⟩
theorem dev_put {w0 V : World} {g n c : Nat} {l ms : List Pc} (h : DevS w0 (.slice (some ⟨g, 0, none⟩) n c) l ms V) {j : Nat} (hj : j < ms.length) {z : Int} (hz : (Lit.int .i64 z).wf = true) (hg : w0.heap.size ≤ g) :
    DevS w0 (.slice (some ⟨g, 0, none⟩) n c) l (ms.set j { ms[j] with v := z }) (V.setCell ⟨g, j * 5 + 2, none⟩ (.int .i64 z)) := by
  refine ⟨?_, fun p hp => ?_, ?_, h.old.setCell (p := ⟨g, j * 5 + 2, none⟩) hg _⟩
  · unfold SameBut
    rw [h.same, List.map_set]
    have e : butV { ms[j] with v := z } = (ms.map butV)[j]'(by simpa using hj) := by rw [List.getElem_map]; rfl
    rw [e, List.set_getElem_self]
  · rcases List.mem_or_eq_of_mem_set hp with h1 | h1
    · exact h.ok p h1
    · rw [h1]
      have h2 := h.ok _ (List.getElem_mem hj)
      exact ⟨h2.s, h2.t, hz, h2.n, h2.o⟩
  · have h1 := h.own.stored j 2 (.int .i64 z) (by rw [pcRows_len]; exact hj) (by decide)
    rw [pcRows_at ms hj] at h1
    have e : pcRows (ms.set j { ms[j] with v := z }) = (pcRows ms).set j (ms[j].vs.set 2 (.int .i64 z)) := by
      unfold pcRows
      rw [List.map_set]
      rfl
    rw [e]
    exact h1
theorem info_pc : (Try.prog.info? 46).map (fun i => (i.zero, i.size, i.bytes)) = some (some (.agg #[.string ByteArray.empty, .int .i64 0, .int .i64 0, .int .u64 0, .int .u16 0]), 5, 48) := by kernel_rfl
end Go.Proofs.Ytcicdbhffkpldaa
