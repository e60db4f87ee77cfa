/- A disk, reckoned: sectors that were written, the fuse, the power, the changes; what each act makes of it. No program in sight, no condition of its own. -/
import Derived.Test.YtmdpoceadjdhmaaMem
namespace Go.Proofs.Ytmdpoceadjdhmaa

/-- A sector that was written: its bytes, those when it was safe; is it torn, was it; isn't it safe? -/
structure Pl where
  plc : Nat
  now : List UInt8
  was : List UInt8
  torn : Bool
  old : Bool
  opn : Bool
/-- A disk: its written sectors by rising places. -/
structure DS where
  L : List Pl
  fuse : Nat
  dead : Bool
  ops : Nat
def z128 : List UInt8 := List.replicate 128 0
def pad128 (bs : List UInt8) : List UInt8 := bs ++ List.replicate (128 - bs.length) 0
theorem pad128_length {bs : List UInt8} (h : bs.length ≤ 128) : (pad128 bs).length = 128 := by simp [pad128]; omega
/-- A change: does it burn the fuse? -/
def burnS (S : DS) : DS × Bool :=
  if 0 < S.fuse then (if S.fuse = 1 then ({ S with ops := S.ops + 1, fuse := 0, dead := true }, true) else ({ S with ops := S.ops + 1, fuse := S.fuse - 1 }, false)) else ({ S with ops := S.ops + 1 }, false)
/-- Where a place lies among the written ones; their number: nowhere. -/
def findL (L : List Pl) (k : Int) : Nat := L.findIdx fun p => decide ((p.plc : Int) = k)
def blank (k : Nat) : Pl := ⟨k, z128, z128, false, false, false⟩
def insP (L : List Pl) (k : Nat) : List Pl := (L.takeWhile fun p => decide (p.plc < k)) ++ blank k :: (L.dropWhile fun p => decide (p.plc < k))
def putP (p : Pl) (bs : List UInt8) : Pl := { p with was := if p.opn then p.was else p.now, old := if p.opn then p.old else p.torn, opn := true, now := pad128 bs, torn := false }
def withP (L : List Pl) (k : Nat) : List Pl := if findL L k < L.length then L else insP L k
def writeL (L : List Pl) (k : Nat) (bs : List UInt8) : List Pl := (withP L k).modify (findL (withP L k) k) fun p => putP p bs
def writeS (S : DS) (k : Int) (bs : List UInt8) : DS × Nat :=
  if S.dead then (S, 10) else if k < 0 ∨ 1024 ≤ k then (S, 1) else if 128 < bs.length then (S, 3) else
    let r := burnS { S with L := writeL S.L k.toNat bs }
    (r.1, if r.2 then 10 else 0)
def safeP (p : Pl) : Pl := { p with opn := false }
def syncS (S : DS) : DS × Nat :=
  if S.dead then (S, 10) else
    let r := burnS S
    if r.2 then (r.1, 10) else ({ r.1 with L := r.1.L.map safeP }, 0)
def readS (S : DS) (k : Int) : List UInt8 × Nat :=
  if k < 0 ∨ 1024 ≤ k then ([], 1) else
    match S.L[findL S.L k]? with
    | none => (z128, 0)
    | some p => if p.torn then ([], 9) else (p.now, 0)
def fuseS (S : DS) (n : Int) : DS × Nat := if S.dead then (S, 10) else ({ S with fuse := n.toNat }, 0)
/-- What the power's return makes of a sector that isn't safe, by its fate. -/
def bootP (p : Pl) (f : Nat) : Pl := { p with opn := false, now := if f = 0 then p.was else p.now, torn := if f = 0 then p.old else if f = 2 then true else p.torn }
def fate (fs : List UInt8) (j : Nat) : Nat := if fs = [] then 0 else (fs.getD (j % fs.length) 0).toNat % 3
def bootL (fs : List UInt8) : Nat → List Pl → List Pl
  | _, [] => []
  | j, p :: r => if p.opn then bootP p (fate fs j) :: bootL fs (j + 1) r else p :: bootL fs j r
def bootS (S : DS) (fs : List UInt8) : DS := { S with L := bootL fs 0 S.L, fuse := 0, dead := false }
def newS : DS := ⟨[], 0, false, 0⟩
/-- All bytes. -/
def rawP (S : DS) (k : Nat) : List UInt8 := match S.L[findL S.L k]? with | none => z128 | some p => if p.torn then z128 else p.now
def rawS (S : DS) : List UInt8 := ((List.range 1024).map (rawP S)).flatten
/-- As a disk is: places below 1024, rising; 128 bytes each. -/
structure DOk (S : DS) : Prop where
  low : ∀ p ∈ S.L, p.plc < 1024
  rise : S.L.Pairwise fun p q => p.plc < q.plc
  full : ∀ p ∈ S.L, p.now.length = 128 ∧ p.was.length = 128
end Go.Proofs.Ytmdpoceadjdhmaa
