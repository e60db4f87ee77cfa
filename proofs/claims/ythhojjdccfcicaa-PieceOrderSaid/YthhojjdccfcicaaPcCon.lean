/- What the thirteenth layer's laws need of the developers' piece. Premises: the contracts themselves. -/
import Derived.Test.YthhojjdccfcicaaPcRef
import Derived.Test.YthhojjdccfcicaaPcChk
import Derived.Test.YthhojjdccfcicaaPcGre
namespace Go.Proofs.Ythhojjdccfcicaa
open Go.RowKit

structure PieceC : Prop where
  check : ∀ (p : Pc) (w : World), p.Ok →
    Calls Try.prog 6 #[.agg p.vs.toArray] w fun e w' => e = .returned (.int .i64 (if p.may then 0 else 1)) ∧ Below w.heap.size w w'
  above : ∀ (n o m q : Nat) (w : World), n < 18446744073709551616 → o < 65536 → m < 18446744073709551616 → q < 65536 →
    Calls Try.prog 8 #[.agg #[.int .u64 (n : Int), .int .u16 (o : Int)], .agg #[.int .u64 (m : Int), .int .u16 (q : Int)]] w fun e w' => e = .returned (.bool (aboveP n o m q)) ∧ Below w.heap.size w w'
  less : ∀ (a b : Pc) (w : World), a.Ok → b.Ok →
    Calls Try.prog 10 #[.agg a.vs.toArray, .agg b.vs.toArray] w fun e w' => e = .returned (.bool (lessP a b)) ∧ Below w.heap.size w w'
  merge : ∀ (v : Value) (ls : List (List Pc)) (w : World), PsP w v ls → ls.length ≤ 10 → ls.flatten.length ≤ 1000 →
    Calls Try.prog 13 #[v] w fun e w' => ∃ u M, e = .returned u ∧ MergedOf M ls.flatten ∧ RsP w' u M ∧ Below w.heap.size w w'
  between : ∀ (v : Value) (ps : List Pc) (a b : Int) (w : World), RsP w v ps → ps.length ≤ 1000 → (Lit.int .i64 a).wf = true → (Lit.int .i64 b).wf = true →
    Calls Try.prog 15 #[v, .int .i64 a, .int .i64 b] w fun e w' => ∃ u, e = .returned u ∧ RsP w' u (betweenP ps a b) ∧ Below w.heap.size w w'
theorem merged_len {M l : List Pc} (h : MergedOf M l) : M.length ≤ l.length := by
  have hn : M.Nodup := h.sorted.imp fun {a b} hk e => by
    subst e
    exact keyLt_irrefl a hk
  exact hn.length_le_of_subset fun p hp => (h.mem p hp).1
end Go.Proofs.Ythhojjdccfcicaa
