/- string(b): the text of a row of bytes, whatever slice it is. No condition of its own. -/
import Derived.Test.YtckgpocfcanokaaMem
import Derived.Test.YtckgpocfcanokaaStrO
import Derived.Laws.IdiomStrings
namespace Go.Proofs.Ytckgpocfcanokaa
open Go.RowKit

theorem run_rd_str {P : Program} {w : World} {v : Value} {xs : List UInt8} (h : Rd w v xs) (src dst e : TypeId) (hs : P.underlying src = some (.slice e)) (he : P.underlying e = some (.int .u8)) (hd : P.underlying dst = some .string) :
    (convert src dst v).run P w = .ok (.string (strOf xs)) w := by
  rcases h with ⟨A, c, rfl, _, _, rfl⟩ | ⟨b, off, c, rfl, h1, h2, h3, h4⟩
  · rw [run_convert_bytes_string w src dst e A 0 c hs he hd]
    cases A with
    | none => simp [Conv.bytesToString, Sem.run_pure]; rfl
    | some a =>
      rw [run_bytesToString w a 0 c [] (by simp [loadCells, loadCellsFrom, Sem.run_pure])]
      rfl
  · exact run_convert_bytes_back w src dst e ⟨b, off, none⟩ c xs hs he hd fun j hj => by
      have e5 : (⟨b, off, none⟩ : Addr).add j = ⟨b, off + j, none⟩ := by
        unfold Addr.add
        split
        · next h0 => subst h0; rfl
        · rfl
      rw [e5]
      exact h4 j hj
theorem wpList_rd_str {P : Program} (w : World) {ops : Array Oper} {rest : List Oper} {o : Oper} {a : Act} {Q : Exit → Act → World → Prop} (hgd : o.guard = none) (s : Operand) (src dst e : TypeId) (ho : o.op = .convert src dst s) (hs : P.underlying src = some (.slice e)) (he : P.underlying e = some (.int .u8)) (hd : P.underlying dst = some .string)
    (xs : List UInt8) (h : Rd w (a.eval s) xs) (hK : wpList P ops Q rest (a.put o.dst (.string (strOf xs))) w) : wpList P ops Q (o :: rest) a w := by
  refine wpList_plain hgd fun K' hK' => ?_
  have hrun := run_rd_str h src dst e hs he hd
  unfold Oper.wp
  simp [execOp, ho, hrun, Result.andThen]
  exact hK' _ _ hK
/-- The same, of a guarded operation that is wanted. -/
theorem wpList_rd_strG {P : Program} (w : World) {ops : Array Oper} {rest : List Oper} {o : Oper} {a : Act} {Q : Exit → Act → World → Prop} (hw : Region.wanted o (yielded ops a.tmps) = true) (s : Operand) (src dst e : TypeId) (ho : o.op = .convert src dst s) (hs : P.underlying src = some (.slice e)) (he : P.underlying e = some (.int .u8)) (hd : P.underlying dst = some .string)
    (xs : List UInt8) (h : Rd w (a.eval s) xs) (hK : wpList P ops Q rest (a.put o.dst (.string (strOf xs))) w) : wpList P ops Q (o :: rest) a w := by
  refine wpList_step fun K' hK' => ?_
  rw [if_pos hw]
  have hrun := run_rd_str h src dst e hs he hd
  unfold Oper.wp
  simp [execOp, ho, hrun, Result.andThen]
  exact hK' _ _ hK
section
variable {P : Program} {ops : Array Oper} {rest : List Oper} {a : Act} {w : World} {Q : Exit → Act → World → Prop} {d : Option Tmp} {t : TypeId} {p : String} {f : Array Edge} {g : Option (Tmp × Bool)}
theorem here_conv {src dst : TypeId} {x : Operand} (h : wpList P ops Q (⟨d, .convert src dst x, t, p, f, g⟩ :: rest) a w) : wpList P ops Q (⟨d, .convert src dst x, t, p, f, g⟩ :: rest) a w := h
end
end Go.Proofs.Ytckgpocfcanokaa
