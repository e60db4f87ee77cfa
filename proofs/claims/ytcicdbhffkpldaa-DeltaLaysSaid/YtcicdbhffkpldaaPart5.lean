/- Part 5 of the words that the laws share: DlCon. No condition of its own: each theorem says its own. -/
import Derived.Test.YtcicdbhffkpldaaPart3
import Derived.Test.YtcicdbhffkpldaaPart4

/- What the fourteenth layer's laws need of the developers' delta. Premises: the contracts themselves. -/
namespace Go.Proofs.Ytcicdbhffkpldaa
open Go.RowKit

structure DeltaC : Prop where
  room : ∀ (v : Value) (l : List Pc) (w : World), RsP w v l → l.length ≤ 1000 → (∀ p ∈ l, p.s.size ≤ 1000) →
    Calls Try.prog 11 #[v] w fun e w' => e = .returned (.int .i64 (roomD l : Int)) ∧ Below w.heap.size w w'
  check : ∀ (v : Value) (l : List Pc) (w : World), RsP w v l → l.length ≤ 1000 → (∀ p ∈ l, p.s.size ≤ 1000) →
    Calls Try.prog 10 #[v] w fun e w' => e = .returned (.int .i64 (checkD l : Int)) ∧ Below w.heap.size w w'
  lay : ∀ (v : Value) (l : List Pc) (w : World), RsP w v l → l.length ≤ 1000 → (∀ p ∈ l, p.s.size ≤ 1000) →
    Calls Try.prog 8 #[v] w fun e w' => ∃ u, e = .returned (.tuple #[u, .int .i64 (checkD l : Int)]) ∧ Rd w' u (if checkD l = 0 then layD l else []) ∧ Below w.heap.size w w'
  read : ∀ (v : Value) (b : List UInt8) (w : World), Rd w v b → b.length ≤ 100000 →
    Calls Try.prog 13 #[v] w fun e w' => ∃ u m k, e = .returned (.tuple #[u, .int .i64 k]) ∧ RsP w' u m ∧ ReadAns b m k ∧ Below w.heap.size w w'
end Go.Proofs.Ytcicdbhffkpldaa
