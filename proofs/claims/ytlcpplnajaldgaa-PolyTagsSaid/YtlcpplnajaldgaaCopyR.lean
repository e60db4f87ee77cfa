/- Laws of copy, from what reads as bytes into a block of bytes that is known whole: at a plain list, and at a step of a region that draws its order. No condition of its own. -/
import Derived.Test.YtlcpplnajaldgaaRds
import Derived.Laws.CopyOwn
namespace Go.Proofs.Ytlcpplnajaldgaa
open Go.RowKit

theorem Sole.setRow (w : World) (g : Nat) (cs : Array Value) : Sole w (w.setRow g cs) g :=
  ⟨below_setRow (Below.refl _ _) (Nat.le_refl _) cs, by simp, fun k hk => setRow_other w g k cs hk⟩
theorem run_copy_rd {P : Program} (w : World) (dT sT rt elem : TypeId) (hu : P.underlying dT = some (.slice elem)) (hsz : (P.info? elem).map (·.size) = some 1)
    (dp : Option Addr) (dLen dCap : Nat) (vs : Value) (zs : List UInt8) (hr : Rd w vs zs) (g off : Nat) (cur : List UInt8) (t : TypeId) (hb : Blk w g t (cur.map bv))
    (n : Nat) (hn : n = min zs.length dLen) (hdp : 0 < n → dp = some ⟨g, off, none⟩) (hfit : off + n ≤ cur.length) :
    ∃ w', (Builtin.copy_ #[dT, sT] rt #[.slice dp dLen dCap, vs]).run P w = .ok (goInt n) w' ∧ Blk w' g t ((splice cur off (zs.take n)).map bv) ∧ Sole w w' g := by
  obtain ⟨A, c, rfl, _, _, _⟩ := hr.form
  have hlen : (zs.take n).length = n := by rw [List.length_take]; omega
  by_cases h0 : n = 0
  · have hrun := run_copy_none (P := P) w dT sT rt elem dp A dLen dCap zs.length c hu hsz (by show min zs.length dLen = 0; omega)
    refine ⟨w, by rw [hrun, h0]; rfl, ?_, Sole.refl w g⟩
    subst h0
    have e : splice cur off (zs.take 0) = cur := by simp [splice]
    rw [e]
    exact hb
  · rw [hdp (by omega)]
    obtain ⟨ad, rfl, _, hsrc⟩ := hr.src (by omega)
    have hlm : ((zs.take n).map bv).length = n := by rw [List.length_map, hlen]
    have hrun := run_copy_row (P := P) w dT sT rt elem g off dLen dCap ad zs.length c (cur.map bv).toArray t ((zs.take n).map bv) hu hsz hb (by rw [hlm]; exact hn) (fun j v hv => by
      rw [List.getElem?_map, Option.map_eq_some_iff] at hv
      obtain ⟨u, hu, rfl⟩ := hv
      have hj : j < (zs.take n).length := by
        rcases Nat.lt_or_ge j (zs.take n).length with h | h
        · exact h
        · rw [List.getElem?_eq_none h] at hu; cases hu
      rw [List.getElem?_take, if_pos (by omega)] at hu
      exact hsrc j u hu) (by rw [hlm]; simpa using hfit) (bv_one _)
    rw [hlm] at hrun
    refine ⟨_, hrun, ?_, Sole.setRow w g _⟩
    have e : ((cur.map bv).toArray.toList.take off ++ (zs.take n).map bv ++ (cur.map bv).toArray.toList.drop (off + n)) = (splice cur off (zs.take n)).map bv := by
      unfold splice
      rw [hlen]
      simp
    rw [e]
    exact setRow_heap w g _ _ t (0, 0) hb
theorem wpList_copy_rd {P : Program} {w : World} {ops : Array Oper} {rest : List Oper} {o : Oper} {a : Act} {Q : Exit → Act → World → Prop} (hgd : o.guard = none) (d s : Operand) (dT sT : TypeId)
    (ho : o.op = .call { callee := .builtin .copy, args := #[d, s], argTypes := #[dT, sT] }) (elem : TypeId) (hu : P.underlying dT = some (.slice elem)) (hsz : (P.info? elem).map (·.size) = some 1)
    (dp : Option Addr) (dLen dCap : Nat) (hd : a.eval d = .slice dp dLen dCap) (vs : Value) (hs : a.eval s = vs) (zs : List UInt8) (hr : Rd w vs zs) (g off : Nat) (cur : List UInt8) (t : TypeId) (hb : Blk w g t (cur.map bv))
    (n : Nat) (hn : n = min zs.length dLen) (hdp : 0 < n → dp = some ⟨g, off, none⟩) (hfit : off + n ≤ cur.length)
    (h : ∀ w', Blk w' g t ((splice cur off (zs.take n)).map bv) → Sole w w' g → wpList P ops Q rest (a.put o.dst (goInt n)) w') : wpList P ops Q (o :: rest) a w := by
  refine wpList_plain hgd fun K hK => ?_
  obtain ⟨w', hrun, h1, h2⟩ := run_copy_rd (P := P) w dT sT o.type elem hu hsz dp dLen dCap vs zs hr g off cur t hb n hn hdp hfit
  unfold Oper.wp
  simp [execOp, ho, resolve, invoke, builtin, hd, hs, hrun, Result.andThen]
  exact hK _ _ (h w' h1 h2)
theorem step_copy_rd {P : Program} {ops : Array Oper} {o : Oper} {a : Act} {w : World} {K : Act → World → Prop} {Q : Exit → Act → World → Prop} {E : Prop} (hgd : o.guard = none) (d s : Operand) (dT sT : TypeId)
    (ho : o.op = .call { callee := .builtin .copy, args := #[d, s], argTypes := #[dT, sT] }) (elem : TypeId) (hu : P.underlying dT = some (.slice elem)) (hsz : (P.info? elem).map (·.size) = some 1)
    (dp : Option Addr) (dLen dCap : Nat) (hd : a.eval d = .slice dp dLen dCap) (vs : Value) (hs : a.eval s = vs) (zs : List UInt8) (hr : Rd w vs zs) (g off : Nat) (cur : List UInt8) (t : TypeId) (hb : Blk w g t (cur.map bv))
    (n : Nat) (hn : n = min zs.length dLen) (hdp : 0 < n → dp = some ⟨g, off, none⟩) (hfit : off + n ≤ cur.length)
    (h : ∀ w', Blk w' g t ((splice cur off (zs.take n)).map bv) → Sole w w' g → K (a.put o.dst (goInt n)) w') :
    if Region.wanted o (yielded ops a.tmps) = true then Oper.wp P o a w K Q else E := by
  have hw : Region.wanted o (yielded ops a.tmps) = true := by simp [Region.wanted, hgd]
  rw [if_pos hw]
  obtain ⟨w', hrun, h1, h2⟩ := run_copy_rd (P := P) w dT sT o.type elem hu hsz dp dLen dCap vs zs hr g off cur t hb n hn hdp hfit
  unfold Oper.wp
  simp [execOp, ho, resolve, invoke, builtin, hd, hs, hrun, Result.andThen]
  exact h w' h1 h2
end Go.Proofs.Ytlcpplnajaldgaa
