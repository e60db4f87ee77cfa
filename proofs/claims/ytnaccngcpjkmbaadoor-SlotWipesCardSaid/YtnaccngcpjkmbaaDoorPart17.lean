/- Part 17 of the words that the laws share: SlAw, SlAwake, WSWA, WSWB, RLayB. No condition of its own: each theorem says its own. -/
import Derived.Test.YtnaccngcpjkmbaaDoorPart16
import Derived.Test.YtnaccngcpjkmbaaDoorPart9
import Derived.Test.YtnaccngcpjkmbaaDoorPart12
import Derived.Lib.SlBytesConst
import Derived.Laws.IdiomStrings

/- The tenth layer's awake: over contracts of the developers' disk and slot. Premises: the contracts; the fingerprint's table is laid. -/
namespace Go.Proofs.YtnaccngcpjkmbaaDoor
open Go.RowKit

theorem fp8_length (b : List UInt8) : (fp8 b).length = 8 := by
  unfold fp8
  have h : (shaB b).length = 32 := by simp [shaB, St.bytes, beB_length]
  rw [List.length_take, h]
  rfl
/-- Where a pair and its disk lie: behind what was there. -/
structure PairAt {DC : DiskW} (SC : SlotC DC) (B : Nat) (w : World) (pp dp : Value) (a k : Nat) (S : DS) (F : Nat → Prop) : Prop where
  both : Both DC SC.At w pp dp a k S F
  new : ∀ j, F j → B ≤ j
theorem PairAt.below {DC : DiskW} {SC : SlotC DC} {B : Nat} {w w' : World} {pp dp : Value} {a k : Nat} {S : DS} {F : Nat → Prop} (h : PairAt SC B w pp dp a k S F) (hb : Below w.heap.size w w') : PairAt SC B w' pp dp a k S F := ⟨h.both.below SC hb, h.new⟩
/-- A call's remains. -/
theorem PairAt.left {DC : DiskW} {SC : SlotC DC} {B : Nat} {w0 w w' : World} {pp dp : Value} {a k : Nat} {S S' : DS} {F : Nat → Prop} (h : PairAt SC B w pp dp a k S F) (hB : Below B w0 w) (hBz : B ≤ w.heap.size) (hl : BLeft DC SC.At w w' pp dp a k S' F) : (∃ F', PairAt SC B w' pp dp a k S' F' ∧ ∀ j, F' j → F j ∨ w.heap.size ≤ j) ∧ Below B w0 w' := by
  obtain ⟨⟨F', h1, h2⟩, h3⟩ := hl
  refine ⟨⟨F', ⟨h1, fun j hj => ?_⟩, h2⟩, hB.trans (h3.below h.new hBz)⟩
  rcases h2 j hj with h4 | h4
  · exact h.new j h4
  · omega
/-- A new pair on a new disk. -/
theorem pair_made {DC : DiskW} {SC : SlotC DC} {B : Nat} {w1 w2 : World} {pp dp : Value} {a k : Nat} {S : DS} {F : Nat → Prop} (h : DC.Is w1 dp S F) (hF : ∀ j, F j → B ≤ j) (hz : B ≤ w1.heap.size) (hG : ∃ G, SC.At w2 pp dp a k G ∧ ∀ j, G j → w1.heap.size ≤ j) (hb : Below w1.heap.size w1 w2) : ∃ F', PairAt SC B w2 pp dp a k S F' := by
  obtain ⟨G, h1, h2⟩ := hG
  have hl := DC.lt h
  refine ⟨_, ⟨⟨F, G, DC.other h (Chg.of_below hb) (fun j hj e => by have := hl j hj; omega), h1, fun j hj e => by have := hl j hj; have := h2 j e; omega, rfl⟩, fun j hj => ?_⟩⟩
  rcases hj with hj | hj
  · exact hF j hj
  · have := h2 j hj
    omega
/-- The power's return, a fuse, a sector written, to the disk of a pair. -/
theorem PairAt.boot {DC : DiskW} {SC : SlotC DC} {B : Nat} {w0 w : World} {pp dp : Value} {a k : Nat} {S : DS} {F : Nat → Prop} (h : PairAt SC B w pp dp a k S F) (hB : Below B w0 w) (hz : B ≤ w.heap.size) {u : Value} {fs : List UInt8} (hr : Rd w u fs) (hl : fs.length ≤ 1000) (hu : 0 < fs.length → ∀ j, u.ownBlock = some j → ¬ F j) :
    Calls Tryd.prog 12 #[dp, u] w fun e w' => e = .returned (.tuple #[]) ∧ (∃ F', PairAt SC B w' pp dp a k (bootS S fs) F' ∧ ∀ j, F' j → F j ∨ w.heap.size ≤ j) ∧ Below B w0 w' := by
  have hb := h.both
  obtain ⟨F1, F2, h1, h2, h3, rfl⟩ := hb
  refine (DC.boot h1 u fs hr hl fun h0 j hj e => hu h0 j hj (.inl e)).mono ?_
  rintro e w' ⟨rfl, h4⟩
  obtain ⟨h5, h6⟩ := h.left hB hz (both_disk SC h2 h3 h4)
  exact ⟨rfl, h5, h6⟩
theorem PairAt.fuse {DC : DiskW} {SC : SlotC DC} {B : Nat} {w0 w : World} {pp dp : Value} {a k : Nat} {S : DS} {F : Nat → Prop} (h : PairAt SC B w pp dp a k S F) (hB : Below B w0 w) (hz : B ≤ w.heap.size) (n : Int) (hn : (Lit.int .i64 n).wf = true) :
    Calls Tryd.prog 9 #[dp, .int .i64 n] w fun e w' => (∃ c, e = .returned c) ∧ (∃ F', PairAt SC B w' pp dp a k (fuseS S n).1 F' ∧ ∀ j, F' j → F j ∨ w.heap.size ≤ j) ∧ Below B w0 w' := by
  have hb := h.both
  obtain ⟨F1, F2, h1, h2, h3, rfl⟩ := hb
  refine (DC.fuse h1 n hn).mono ?_
  rintro e w' ⟨rfl, h4⟩
  obtain ⟨h5, h6⟩ := h.left hB hz (both_disk SC h2 h3 h4)
  exact ⟨⟨_, rfl⟩, h5, h6⟩
theorem PairAt.write {DC : DiskW} {SC : SlotC DC} {B : Nat} {w0 w : World} {pp dp : Value} {a k : Nat} {S : DS} {F : Nat → Prop} (h : PairAt SC B w pp dp a k S F) (hB : Below B w0 w) (hz : B ≤ w.heap.size) (q : Int) (hq : (Lit.int .i64 q).wf = true) {u : Value} {bs : List UInt8} (hr : Rd w u bs) (hl : bs.length ≤ 1000) (ho : S.ops < 1000000) (hu : 0 < bs.length → ∀ j, u.ownBlock = some j → ¬ F j) :
    Calls Tryd.prog 18 #[dp, .int .i64 q, u] w fun e w' => (∃ c, e = .returned c) ∧ (∃ F', PairAt SC B w' pp dp a k (writeS S q bs).1 F' ∧ ∀ j, F' j → F j ∨ w.heap.size ≤ j) ∧ Below B w0 w' := by
  have hb := h.both
  obtain ⟨F1, F2, h1, h2, h3, rfl⟩ := hb
  refine (DC.write h1 q u bs hq hr hl ho fun h0 j hj e => hu h0 j hj (.inl e)).mono ?_
  rintro e w' ⟨rfl, h4⟩
  obtain ⟨h5, h6⟩ := h.left hB hz (both_disk SC h2 h3 h4)
  exact ⟨⟨_, rfl⟩, h5, h6⟩
end Go.Proofs.YtnaccngcpjkmbaaDoor

/- The tenth layer's awake answers true. Premises: the contracts of the developers' disk and slot; the fingerprint's table is laid. -/
namespace Go.Proofs.YtnaccngcpjkmbaaDoor
open Go.RowKit

theorem lit97 (w : World) : Rd (w.alloc (.cells #[.int .u8 97] 5 (1, 2))) (.slice (some ⟨w.heap.size, 0, none⟩) 1 1) [97] := rd_litm [97] 1 1 rfl (Nat.le_refl _) (by unfold maxLen; omega)
theorem lit98 (w : World) : Rd (w.alloc (.cells #[.int .u8 98] 5 (1, 2))) (.slice (some ⟨w.heap.size, 0, none⟩) 1 1) [98] := rd_litm [98] 1 1 rfl (Nat.le_refl _) (by unfold maxLen; omega)
theorem one_apart {F : Nat → Prop} {n : Nat} (h : ∀ k, F k → k < n) : ∀ j, (Value.slice (some ⟨n, 0, none⟩) 1 1).ownBlock = some j → ¬ F j := fun j hj hf => by
  have e : n = j := by simpa [Value.ownBlock] using hj
  have := h j hf
  omega
set_option maxRecDepth 100000 in
set_option maxHeartbeats 4000000 in
theorem awakeS_any (DC : DiskW) (SC : SlotC DC) (w : World) (hs : Salts w) : Calls Tryd.prog 6 #[] w fun e w' => e = .returned (.bool true) ∧ Below w.heap.size w w' := by
  have kc := fun (w : World) (C : Array Value) (n c : Nat) => Lib.run_convert_bytes_const (P := Tryd.prog) w 23 5 C n c Tryd.underlying23 Tryd.underlying5
  have HS := Lib.hid hs
  obtain ⟨S1, e1, hS1⟩ : ∃ S1 e1, saveS fp8 newS 5 2 [97] false = (S1, e1) := ⟨_, _, rfl⟩
  obtain ⟨S2, e2, hS2⟩ : ∃ S2 e2, saveS fp8 S1 5 2 [98] false = (S2, e2) := ⟨_, _, rfl⟩
  obtain ⟨S3, e3, hS3⟩ : ∃ S3 e3, writeS S2 7 [] = (S3, e3) := ⟨_, _, rfl⟩
  obtain ⟨m0, a1, m1, a2, d1, d2, o1, o2, hld⟩ := slot_example fp8_length hS1 hS2 hS3
  subst a1 a2
  have HS1 := Lib.hid hS1
  have HS2 := Lib.hid hS2
  have HS3 := Lib.hid hS3
  have HEX : Hid (mostS newS 5 2 = 0 ∧ mostS S1 5 2 = 1 ∧ S1.dead = false ∧ S2.dead = false ∧ S1.ops ≤ 10 ∧ S2.ops ≤ 20) := Lib.hid ⟨m0, m1, d1, d2, o1, o2⟩
  have HLD := Lib.hid hld
  clear hs hS1 hS2 hS3 m0 m1 d1 d2 o1 o2 hld
  go_enter Tryd.func6, Tryd.ntmps6
  go_wp2_with (fail)
  refine (DC.new w).mono ?_
  rintro e w1 ⟨dp, rfl, ⟨F1, h1, f1⟩, b1⟩
  have H1 := Lib.hid h1
  have F1b := Lib.hid f1
  have D1 := Lib.hid b1
  clear h1 f1 b1
  go_wp2_with (fail)
  refine (SC.opn H1.out 5 2 (by decide) (by decide) (by decide) (by decide) (by decide)).mono ?_
  rintro e w2 ⟨X, rfl, hG, b2⟩
  obtain ⟨F2, hp2⟩ := pair_made (SC := SC) H1.out F1b.out D1.out.size hG b2
  have hp2 : PairAt SC w.heap.size w2 (.pointer (some X)) dp 5 2 newS F2 := hp2
  obtain ⟨V2, hV2⟩ : ∃ W : World, W = w2.alloc (.cells #[.int .u8 97] 5 (1, 2)) := ⟨_, rfl⟩
  have L2 : Below w2.heap.size w2 V2 := by rw [hV2]; exact (Below.refl _ _).alloc (Nat.le_refl _) _
  have R2 : Hid (Rd V2 (.slice (some ⟨w2.heap.size, 0, none⟩) 1 1) [97]) := Lib.hid (by rw [hV2]; exact lit97 w2)
  have A2 := Lib.hid (one_apart (hp2.both.lt SC))
  have P2 := Lib.hid (hp2.below L2)
  have D2 := Lib.hid ((D1.out.trans (b2.mono D1.out.size)).trans (L2.mono ((D1.out.trans (b2.mono D1.out.size)).size)))
  clear hG b2 hp2 L2 H1 F1b D1
  go_wp2_with (fail)
  rw [← hV2]
  clear hV2
  refine (SC.save P2.out.both (HS.out.under D2.out HS.out.1) (fun j hj => Nat.lt_of_lt_of_le HS.out.1 (P2.out.new j hj)) (by decide) (by decide) _ [97] R2.out (fun _ => A2.out) (by decide) rfl (by rw [HEX.out.1]; decide) (by decide)).mono ?_
  rintro e w3 ⟨n1, rfl, hn1, hl1⟩
  rw [HS1.out] at hn1 hl1 ⊢
  have hn1 : n1 = .int .u64 1 := by rw [hn1 rfl, HEX.out.1]; rfl
  subst hn1
  obtain ⟨⟨F3, hp3, _⟩, b3⟩ := P2.out.left D2.out D2.out.size hl1
  have hp3 : PairAt SC w.heap.size w3 (.pointer (some X)) dp 5 2 S1 F3 := hp3
  obtain ⟨V3, hV3⟩ : ∃ W : World, W = w3.alloc (.cells #[.int .u8 98] 5 (1, 2)) := ⟨_, rfl⟩
  have L3 : Below w3.heap.size w3 V3 := by rw [hV3]; exact (Below.refl _ _).alloc (Nat.le_refl _) _
  have R3 : Hid (Rd V3 (.slice (some ⟨w3.heap.size, 0, none⟩) 1 1) [98]) := Lib.hid (by rw [hV3]; exact lit98 w3)
  have A3 := Lib.hid (one_apart (hp3.both.lt SC))
  have P3 := Lib.hid (hp3.below L3)
  have D3 := Lib.hid (b3.trans (L3.mono b3.size))
  clear hl1 hp3 b3 L3 P2 D2 R2 A2
  go_wp2_with (fail)
  rw [← hV3]
  clear hV3
  refine (SC.save P3.out.both (HS.out.under D3.out HS.out.1) (fun j hj => Nat.lt_of_lt_of_le HS.out.1 (P3.out.new j hj)) (by decide) (by decide) _ [98] R3.out (fun _ => A3.out) (by decide) HEX.out.2.2.1 (by rw [HEX.out.2.1]; decide) (by have := HEX.out.2.2.2.2.1; omega)).mono ?_
  rintro e w4 ⟨n2, rfl, hn2, hl2⟩
  rw [HS2.out] at hn2 hl2 ⊢
  have hn2 : n2 = .int .u64 2 := by rw [hn2 rfl, HEX.out.2.1]; rfl
  subst hn2
  obtain ⟨⟨F4, hp4, _⟩, b4⟩ := P3.out.left D3.out D3.out.size hl2
  have hp4 : PairAt SC w.heap.size w4 (.pointer (some X)) dp 5 2 S2 F4 := hp4
  have P4 := Lib.hid hp4
  have D4 := Lib.hid b4
  clear hl2 hp4 b4 P3 D3 R3 A3
  go_wp2_with (fail)
  refine (P4.out.write D4.out D4.out.size 7 (by decide) (Rd.nil _) (by decide) (by have := HEX.out.2.2.2.2.2; omega) (fun h => absurd h (by decide))).mono ?_
  rintro e w5 ⟨⟨c5, rfl⟩, ⟨F5, hp5, _⟩, b5⟩
  rw [HS3.out] at hp5
  have hp5 : PairAt SC w.heap.size w5 (.pointer (some X)) dp 5 2 S3 F5 := hp5
  obtain ⟨V5, hV5⟩ : ∃ W : World, W = w5.alloc (.cells #[.int .u8 2] 5) := ⟨_, rfl⟩
  have L5 : Below w5.heap.size w5 V5 := by rw [hV5]; exact (Below.refl _ _).alloc (Nat.le_refl _) _
  have R5 : Hid (Rd V5 (.slice (some ⟨w5.heap.size, 0, none⟩) 1 1) [2]) := Lib.hid (by rw [hV5]; exact rd_lit w5 2)
  have A5 := Lib.hid (one_apart (hp5.both.lt SC))
  have P5 := Lib.hid (hp5.below L5)
  have D5 := Lib.hid (b5.trans (L5.mono b5.size))
  clear hp5 b5 L5 P4 D4
  go_wp2_with (fail)
  rw [← hV5]
  clear hV5
  refine (P5.out.boot D5.out D5.out.size R5.out (by decide) (fun _ => A5.out)).mono ?_
  rintro e w6 ⟨rfl, ⟨F6, hp6, _⟩, b6⟩
  have P6 := Lib.hid hp6
  have D6 := Lib.hid b6
  clear hp6 b6 P5 D5 R5 A5
  go_wp2_with (fail)
  refine (SC.load P6.out.both (HS.out.under D6.out HS.out.1) (by decide) (by decide)).mono ?_
  rintro e w7 ⟨hans, b7⟩
  rw [HLD.out] at hans
  obtain ⟨u, rfl, hu, _⟩ := hans
  have D7 := Lib.hid (D6.out.trans (b7.mono D6.out.size))
  have hcv : (convert 23 9 u).run Tryd.prog w7 = .ok (.string ⟨#[97]⟩) w7 := by
    rcases hu with ⟨_, _, _, _, _, h⟩ | ⟨b, off, c, rfl, _, _, _, h⟩
    · cases h
    · exact run_convert_bytes_back w7 23 9 5 ⟨b, off, none⟩ c [97] Tryd.underlying23 Tryd.underlying5 Tryd.underlying9 fun j hj => by
        obtain rfl : j = 0 := by simpa using hj
        exact h 0 (by decide)
  clear hu b7
  go_wp2_with (fail)
  go_ret
  exact ⟨rfl, D7.out⟩
end Go.Proofs.YtnaccngcpjkmbaaDoor

/- SlotWhole's first loop: are all rows short? No condition of its own. -/
namespace Go.Proofs.YtnaccngcpjkmbaaDoor
open Go.RowKit

def SwaRel (xss : List (List UInt8)) (w : World) (v : Value) (W : World) : Prop := ∃ i : Nat, v = .int .i64 (i : Int) ∧ i ≤ xss.length ∧ (∀ q (h : q < i) (h2 : q < xss.length), xss[q].length ≤ 600) ∧ W = w
noncomputable def body_swa : Code := (((Tryd.f3.body.map loopsOf).getD [])[0]?).getD .skip
set_option maxRecDepth 100000 in
set_option maxHeartbeats 2000000 in
theorem swa_loop (DC : DiskW) (SC : SlotC DC) (c1 c2 c3 c4 c5 c6 c8 c9 c10 c11 c12 c13 c14 c15 c16 c17 c18 c19 c20 c21 c22 c23 c24 c25 c26 c27 c28 c29 c30 c31 c32 c33 c34 c35 c36 c37 c38 c39 c40 c41 c42 c43 c44 c45 c46 c47 c48 c49 c50 c51 c52 c53 c54 c55 c56 c57 c58 c59 c60 c61 c62 c63 c64 c65 c66 c67 c68 c69 c70 c71 c72 c73 c74 c75 c76 c77 c78 c79 c80 c81 c82 c83 c84 c85 c86 c87 c88 c89 c90 c91 c92 c93 c94 c95 c96 c97 c98 c99 c100 c101 c102 c103 c104 c105 c106 c107 c108 c109 c110 c111 c112 c113 c114 c115 c116 c117 c118 c119 c120 c121 c122 c123 c124 c125 c126 c127 c128 c129 c130 c131 c132 c133 c134 c135 c136 c137 c138 c139 c140 c141 c142 c143 c144 c145 c146 c147 c148 c149 c150 c151 c152 c153 : Value) (xss : List (List UInt8)) (Al : Option Addr) (cl : Nat) (w : World) (hs : Hid (Salts w)) (hl : Hid (RsA w (.slice Al xss.length cl) xss)) (hn : Hid (xss.length ≤ 8)) {Q : Exit → Act → World → Prop}
    (HQ : Hid (∀ (u6 u7 u36 u37 u38 u39 u40 u41 u42 u43 u44 u45 u46 u47 u48 : Value), Hid (∀ q (h : q < xss.length), xss[q].length ≤ 600) → Q (.exit 0) ⟨List.toArray ((.slice Al xss.length cl) :: c1 :: c2 :: c3 :: c4 :: c5 :: u6 :: u7 :: c8 :: c9 :: c10 :: c11 :: c12 :: c13 :: c14 :: c15 :: c16 :: c17 :: c18 :: c19 :: c20 :: c21 :: c22 :: c23 :: c24 :: c25 :: c26 :: c27 :: c28 :: c29 :: c30 :: c31 :: c32 :: c33 :: c34 :: c35 :: u36 :: u37 :: u38 :: u39 :: u40 :: u41 :: u42 :: u43 :: u44 :: u45 :: u46 :: u47 :: u48 :: c49 :: c50 :: c51 :: c52 :: c53 :: c54 :: c55 :: c56 :: c57 :: c58 :: c59 :: c60 :: c61 :: c62 :: c63 :: c64 :: c65 :: c66 :: c67 :: c68 :: c69 :: c70 :: c71 :: c72 :: c73 :: c74 :: c75 :: c76 :: c77 :: c78 :: c79 :: c80 :: c81 :: c82 :: c83 :: c84 :: c85 :: c86 :: c87 :: c88 :: c89 :: c90 :: c91 :: c92 :: c93 :: c94 :: c95 :: c96 :: c97 :: c98 :: c99 :: c100 :: c101 :: c102 :: c103 :: c104 :: c105 :: c106 :: c107 :: c108 :: c109 :: c110 :: c111 :: c112 :: c113 :: c114 :: c115 :: c116 :: c117 :: c118 :: c119 :: c120 :: c121 :: c122 :: c123 :: c124 :: c125 :: c126 :: c127 :: c128 :: c129 :: c130 :: c131 :: c132 :: c133 :: c134 :: c135 :: c136 :: c137 :: c138 :: c139 :: c140 :: c141 :: c142 :: c143 :: c144 :: c145 :: c146 :: c147 :: c148 :: c149 :: c150 :: c151 :: c152 :: c153 :: []), []⟩ w))
    (HR : Hid (∀ (a : Act) (W : World), a.tmps.getD 6 undef = .bool true → a.defers = [] → Below w.heap.size w W → Q .ret a W)) :
    (Code.loop body_swa).wp Tryd.prog Q ⟨List.toArray ((.slice Al xss.length cl) :: c1 :: c2 :: c3 :: c4 :: c5 :: c6 :: (.int .i64 0) :: c8 :: c9 :: c10 :: c11 :: c12 :: c13 :: c14 :: c15 :: c16 :: c17 :: c18 :: c19 :: c20 :: c21 :: c22 :: c23 :: c24 :: c25 :: c26 :: c27 :: c28 :: c29 :: c30 :: c31 :: c32 :: c33 :: c34 :: c35 :: c36 :: c37 :: c38 :: c39 :: c40 :: c41 :: c42 :: c43 :: c44 :: c45 :: c46 :: c47 :: c48 :: c49 :: c50 :: c51 :: c52 :: c53 :: c54 :: c55 :: c56 :: c57 :: c58 :: c59 :: c60 :: c61 :: c62 :: c63 :: c64 :: c65 :: c66 :: c67 :: c68 :: c69 :: c70 :: c71 :: c72 :: c73 :: c74 :: c75 :: c76 :: c77 :: c78 :: c79 :: c80 :: c81 :: c82 :: c83 :: c84 :: c85 :: c86 :: c87 :: c88 :: c89 :: c90 :: c91 :: c92 :: c93 :: c94 :: c95 :: c96 :: c97 :: c98 :: c99 :: c100 :: c101 :: c102 :: c103 :: c104 :: c105 :: c106 :: c107 :: c108 :: c109 :: c110 :: c111 :: c112 :: c113 :: c114 :: c115 :: c116 :: c117 :: c118 :: c119 :: c120 :: c121 :: c122 :: c123 :: c124 :: c125 :: c126 :: c127 :: c128 :: c129 :: c130 :: c131 :: c132 :: c133 :: c134 :: c135 :: c136 :: c137 :: c138 :: c139 :: c140 :: c141 :: c142 :: c143 :: c144 :: c145 :: c146 :: c147 :: c148 :: c149 :: c150 :: c151 :: c152 :: c153 :: []), []⟩ w := by
  unfold body_swa
  conv => arg 2; arg 1; whnf
  go_loopw [7] (fun v wx => SwaRel xss w v wx) (fun v _ => xss.length - (intOf v).toNat)
  case atStart => exact ⟨0, rfl, Nat.zero_le _, fun q h => (by omega), rfl⟩
  case round =>
    obtain ⟨i, rfl, hi, hq, rfl⟩ := hrel
    have nI : (xss.length : Int) ≤ 8 := by have := hn.out; omega
    have HI := Lib.hid hi
    have HP := Lib.hid hq
    by_cases hlt : i < xss.length
    · have hI : (i : Int) < xss.length := by omega
      obtain ⟨A, c, e, _, hrow⟩ := hl.out.ex
      injection e with e1 _ e2
      obtain ⟨g, o, u, hA, h8, cu, hu, h9⟩ := hrow i hlt
      obtain rfl : Al = some ⟨g, o, none⟩ := e1.trans hA
      obtain ⟨bs, hbs⟩ : ∃ bs, bs = xss[i] := ⟨_, rfl⟩
      rw [← hbs] at hu
      obtain ⟨Au, ku, rfl, hk1, hk2, _⟩ := hu.form
      have HB : Hid (∀ h : i < xss.length, xss[i] = bs) := Lib.hid fun _ => hbs.symm
      have HLT := Lib.hid hlt
      unfold maxLen at hk2
      have lI : (bs.length : Int) ≤ 9223372036854775807 := by omega
      by_cases hg : 600 < bs.length
      · have gI : decide ((600 : Int) < (bs.length : Int)) = true := decide_eq_true (by omega)
        clear hu hbs hrow e1 e2 hA h8 h9 hi hlt hq hk1 hk2 hg
        go_wp2_with (fail)
        refine (awakeS_any DC SC _ hs.out).mono ?_
        rintro e w1 ⟨rfl, b1⟩
        have B1 := Lib.hid b1
        clear b1
        go_wp2_with (fail)
        exact HR.out _ _ rfl rfl B1.out
      · have gI : decide ((600 : Int) < (bs.length : Int)) = false := decide_eq_false (by omega)
        have HG := Lib.hid hg
        clear hu hbs hrow e1 e2 hA h8 h9 hi hlt hq hk1 hk2 hg
        go_wp2_with (fail)
        have hlt := HLT.out
        refine ⟨⟨i + 1, by go_num, by omega, fun q h1 h2 => ?_, rfl⟩, by simp [intOf]; omega⟩
        by_cases e : q = i
        · subst e
          have := HG.out
          rw [HB.out h2]
          omega
        · exact HP.out q (by omega) h2
    · obtain rfl : i = xss.length := by omega
      clear hi hq hlt
      go_wp2_with (fail)
      exact HQ.out _ _ _ _ _ _ _ _ _ _ _ _ _ _ _ (Lib.hid fun q h => HP.out q h h)
end Go.Proofs.YtnaccngcpjkmbaaDoor

/- SlotWhole's second loop: rows saved one behind the other, the power gone and back. Premises: the contracts; all rows are short. -/
namespace Go.Proofs.YtnaccngcpjkmbaaDoor
open Go.RowKit

theorem load_view {fp : List UInt8 → List UInt8} {S T : DS} {a k : Nat} (h : ∀ b i, viewS T b i = viewS S b i) : loadS fp T a k = loadS fp S a k ∧ mostS T a k = mostS S a k := by
  have e : ∀ b, viewS T b = viewS S b := fun b => funext (h b)
  unfold loadS mostS
  rw [e, e]
  exact ⟨rfl, rfl⟩
/-- One turn, reckoned. -/
theorem round_pure {S : DS} (hc : Calm S) {i : Nat} (hm : mostS S 0 6 ≤ i) (hi : i ≤ 8) {bs : List UInt8} (hb : bs.length ≤ 600) (fs : List UInt8) :
    (((saveS fp8 S 0 6 bs false).2 = 0 ∧ (saveS fp8 S 0 6 bs false).1.dead = false ∧ ∃ N t, loadS fp8 (bootS (saveS fp8 S 0 6 bs false).1 fs) 0 6 = some (bs, N, t)) ∨
     ((saveS fp8 S 0 6 bs false).2 = 10 ∧ (saveS fp8 S 0 6 bs false).1.dead = true ∧ ((∃ N t, loadS fp8 (bootS (saveS fp8 S 0 6 bs false).1 fs) 0 6 = some (bs, N, t)) ∨ loadS fp8 (bootS (saveS fp8 S 0 6 bs false).1 fs) 0 6 = loadS fp8 S 0 6))) ∧
    Calm (bootS (saveS fp8 S 0 6 bs false).1 fs) ∧ mostS (bootS (saveS fp8 S 0 6 bs false).1 fs) 0 6 ≤ i + 1 ∧ (saveS fp8 S 0 6 bs false).1.ops ≤ S.ops + 7 := by
  obtain ⟨ho, h⟩ := save_cases (wiped := false) fp8_length hc (a := 0) (k := 6) (bs := bs) (by decide) (by decide) (by omega)
  rcases h with ⟨h1, h2, _⟩ | ⟨h1, h2, _⟩
  · obtain ⟨d1, d2, d3, _⟩ := save_done (wiped := false) fp8_length hc (a := 0) (k := 6) (bs := bs) (by decide) (by decide) (by omega) (by omega) h1
    obtain ⟨v1, v2⟩ := load_view (fp := fp8) (a := 0) (k := 6) (view_calm d1 fs)
    refine ⟨.inl ⟨h1, h2, _, _, v1.trans d2⟩, calm_boot d1.ok fs, ?_, by omega⟩
    rw [v2, d3]
    omega
  · obtain ⟨d1, d2, d3⟩ := save_cut fp8_length hc (a := 0) (k := 6) (bs := bs) (by decide) (by decide) (by omega) (by omega) h1 fs
    refine ⟨.inr ⟨h1, h2, ?_⟩, d1, by omega, by omega⟩
    rcases d3 with d3 | d3
    · exact .inr d3
    · exact .inl ⟨_, _, d3⟩
theorem both_boot {DC : DiskW} {SC : SlotC DC} {w : World} {pp dp : Value} {a k : Nat} {S : DS} {F : Nat → Prop} (h : Both DC SC.At w pp dp a k S F) {u : Value} {fs : List UInt8} (hr : Rd w u fs) (hl : fs.length ≤ 1000) (hu : 0 < fs.length → ∀ j, u.ownBlock = some j → ¬ F j) :
    Calls Tryd.prog 12 #[dp, u] w fun e w' => e = .returned (.tuple #[]) ∧ BLeft DC SC.At w w' pp dp a k (bootS S fs) F := by
  obtain ⟨F1, F2, h1, h2, h3, rfl⟩ := h
  exact (DC.boot h1 u fs hr hl fun h0 j hj e => hu h0 j hj (.inl e)).mono fun _ _ ⟨h4, h5⟩ => ⟨h4, both_disk SC h2 h3 h5⟩
theorem both_fuse {DC : DiskW} {SC : SlotC DC} {w : World} {pp dp : Value} {a k : Nat} {S : DS} {F : Nat → Prop} (h : Both DC SC.At w pp dp a k S F) (n : Int) (hn : (Lit.int .i64 n).wf = true) :
    Calls Tryd.prog 9 #[dp, .int .i64 n] w fun e w' => (∃ c, e = .returned c) ∧ BLeft DC SC.At w w' pp dp a k (fuseS S n).1 F := by
  obtain ⟨F1, F2, h1, h2, h3, rfl⟩ := h
  exact (DC.fuse h1 n hn).mono fun _ _ ⟨h4, h5⟩ => ⟨⟨_, h4⟩, both_disk SC h2 h3 h5⟩
theorem both_dead {DC : DiskW} {SC : SlotC DC} {w : World} {pp dp : Value} {a k : Nat} {S : DS} {F : Nat → Prop} (h : Both DC SC.At w pp dp a k S F) : Calls Tryd.prog 11 #[dp] w fun e w' => e = .returned (.bool S.dead) ∧ Below w.heap.size w w' := by
  obtain ⟨F1, F2, h1, h2, h3, rfl⟩ := h
  exact DC.dead h1
/-- A pair, its disk, and bytes that were loaded, behind what was there. -/
def Keep {DC : DiskW} (SC : SlotC DC) (w0 : World) (pp dp : Value) (S : DS) (u : Value) (ub : List UInt8) (W : World) : Prop :=
  ∃ F, PairAt SC w0.heap.size W pp dp 0 6 S F ∧ Below w0.heap.size w0 W ∧ Rd W u ub ∧ (0 < ub.length → ∀ j, u.ownBlock = some j → ¬ F j)
section
variable {DC : DiskW} {SC : SlotC DC} {w0 : World} {pp dp : Value} {S S' : DS} {u : Value} {ub : List UInt8} {W W' : World}
theorem Keep.on (h : Keep SC w0 pp dp S u ub W) (hb : Below W.heap.size W W') : Keep SC w0 pp dp S u ub W' := by
  obtain ⟨F, h1, h2, h3, h4⟩ := h
  exact ⟨F, h1.below hb, h2.trans (hb.mono h2.size), h3.below hb, h4⟩
theorem Keep.step {F : Nat → Prop} (h1 : PairAt SC w0.heap.size W pp dp 0 6 S F) (h2 : Below w0.heap.size w0 W) (h3 : Rd W u ub) (h4 : 0 < ub.length → ∀ j, u.ownBlock = some j → ¬ F j) (hl : BLeft DC SC.At W W' pp dp 0 6 S' F) : Keep SC w0 pp dp S' u ub W' := by
  obtain ⟨⟨F', hp, hF⟩, hb⟩ := h1.left h2 h2.size hl
  refine ⟨F', hp, hb, chg_rd0 hl.chg h3 h4, fun h0 j hj hf => ?_⟩
  rcases hF j hf with h | h
  · exact h4 h0 j hj h
  · have := rd_elder h3 j hj h0
    omega
/-- What was there lies apart. -/
theorem old_apart {F : Nat → Prop} (h1 : PairAt SC w0.heap.size W pp dp 0 6 S F) {v : Value} {xs : List UInt8} (hv : Rd w0 v xs) : 0 < xs.length → ∀ j, v.ownBlock = some j → ¬ F j := fun h0 j hj hf => by
  have := rd_elder hv j hj h0
  have := h1.new j hf
  omega
theorem Keep.row (h : Keep SC w0 pp dp S u ub W) {v : Value} {xs : List UInt8} (hv : Rd W v xs) (hn : ∀ F : Nat → Prop, PairAt SC w0.heap.size W pp dp 0 6 S F → 0 < xs.length → ∀ j, v.ownBlock = some j → ¬ F j) : Keep SC w0 pp dp S v xs W := by
  obtain ⟨F, h1, h2, _, _⟩ := h
  exact ⟨F, h1, h2, hv, hn F h1⟩
theorem keep_save (h : Keep SC w0 pp dp S u ub W) (hs : Salts w0) {v : Value} {bs : List UInt8} (hv : Rd w0 v bs) (hl : bs.length ≤ 600) (hd : S.dead = false) (hm : mostS S 0 6 < 1000000) (ho : S.ops < 100000) :
    Calls Tryd.prog 10 #[pp, v] W fun e W' => ∃ n, e = .returned (.tuple #[n, .int .i64 ((saveS fp8 S 0 6 bs false).2 : Int)]) ∧ Keep SC w0 pp dp (saveS fp8 S 0 6 bs false).1 u ub W' := by
  obtain ⟨F, h1, h2, h3, h4⟩ := h
  refine (SC.save h1.both (hs.under h2 hs.1) (fun j hj => Nat.lt_of_lt_of_le hs.1 (h1.new j hj)) (by decide) (by decide) v bs (hv.below h2) (old_apart h1 hv) (by omega) hd hm ho).mono ?_
  rintro e W' ⟨n, rfl, _, hl⟩
  exact ⟨n, rfl, Keep.step h1 h2 h3 h4 hl⟩
theorem keep_fuse (h : Keep SC w0 pp dp S u ub W) (n : Int) (hn : (Lit.int .i64 n).wf = true) :
    Calls Tryd.prog 9 #[dp, .int .i64 n] W fun e W' => (∃ c, e = .returned c) ∧ Keep SC w0 pp dp (fuseS S n).1 u ub W' := by
  obtain ⟨F, h1, h2, h3, h4⟩ := h
  exact (both_fuse h1.both n hn).mono fun _ _ ⟨h5, h6⟩ => ⟨h5, Keep.step h1 h2 h3 h4 h6⟩
theorem keep_boot (h : Keep SC w0 pp dp S u ub W) {v : Value} {fs : List UInt8} (hv : Rd w0 v fs) (hl : fs.length ≤ 1000) :
    Calls Tryd.prog 12 #[dp, v] W fun e W' => e = .returned (.tuple #[]) ∧ Keep SC w0 pp dp (bootS S fs) u ub W' := by
  obtain ⟨F, h1, h2, h3, h4⟩ := h
  exact (both_boot h1.both (hv.below h2) hl (old_apart h1 hv)).mono fun _ _ ⟨h5, h6⟩ => ⟨h5, Keep.step h1 h2 h3 h4 h6⟩
theorem keep_dead (h : Keep SC w0 pp dp S u ub W) : Calls Tryd.prog 11 #[dp] W fun e W' => e = .returned (.bool S.dead) ∧ Keep SC w0 pp dp S u ub W' := by
  have h' := h
  obtain ⟨F, h1, h2, h3, h4⟩ := h'
  exact (both_dead h1.both).mono fun _ _ ⟨h5, h6⟩ => ⟨h5, h.on h6⟩
theorem keep_load (h : Keep SC w0 pp dp S u ub W) (hs : Salts w0) : Calls Tryd.prog 13 #[pp] W fun e W' => LoadAns W W' (loadS fp8 S 0 6) e ∧ Below W.heap.size W W' := by
  obtain ⟨F, h1, h2, h3, h4⟩ := h
  exact SC.load h1.both (hs.under h2 hs.1) (by decide) (by decide)
/-- What has been loaded is what is kept. -/
theorem Keep.loaded (h : Keep SC w0 pp dp S u ub W) (hb : Below W.heap.size W W') {v : Value} {xs : List UInt8} (hv : Rd W' v xs) (hf : ∀ j, v.ownBlock = some j → W.heap.size ≤ j) : Keep SC w0 pp dp S v xs W' := by
  obtain ⟨F, h1, h2, h3, h4⟩ := h
  exact ⟨F, h1.below hb, h2.trans (hb.mono h2.size), hv, fun _ j hj e => by have := h1.both.lt SC j e; have := hf j hj; omega⟩
theorem Keep.rd (h : Keep SC w0 pp dp S u ub W) : Rd W u ub := by
  obtain ⟨F, _, _, h3, _⟩ := h
  exact h3
theorem Keep.old (h : Keep SC w0 pp dp S u ub W) : Below w0.heap.size w0 W := by
  obtain ⟨F, _, h2, _, _⟩ := h
  exact h2
end
end Go.Proofs.YtnaccngcpjkmbaaDoor

/- The tenth reference's Lay: its loop over the parts. No condition of its own. -/
namespace Go.Proofs.YtnaccngcpjkmbaaDoor
open Go.RowKit

/-- Sectors laid so far: a row of slices, each a row of its own. -/
structure LyoIs (bs : List UInt8) (n B : Nat) (w : World) (i : Nat) (v : Value) (W : World) : Prop where
  row : ∃ ls : List Value, ls.length = i ∧ W.ownsRow B 23 1 v i ls ∧ ∀ j (h : j < ls.length), W.ownsRow B 5 1 ls[j] 128 ((pad128 (partS fp8 bs n j)).map bv)
  below : Below B w W
def LyoRel (bs : List UInt8) (n c B : Nat) (w : World) (v x : Value) (W : World) : Prop := ∃ i : Nat, x = .int .i64 (i : Int) ∧ i ≤ c ∧ LyoIs bs n B w i v W
/-- A piece of a slice, as a fact says. -/
theorem wpList_slice_is {P : Program} {ops : Array Oper} {rest : List Oper} {o : Oper} {a : Act} {w : World} {Q : Exit → Act → World → Prop} (hgd : o.guard = none) (t e : TypeId) (ht : P.underlying t = some (.slice e)) (x l h : Operand) (hop : o.op = .slice t x (some l) (some h) none) (A : Option Addr) (n c : Nat) (r L H : Value) (hx : a.eval x = .slice A n c) (hl : a.eval l = L) (hh : a.eval h = H)
    (hrun : ∀ W, (Instr.slice t (.slice A n c) (some L) (some H) none).run P W = .ok r W) (hK : wpList P ops Q rest (a.put o.dst r) w) : wpList P ops Q (o :: rest) a w := by
  refine wpList_plain hgd fun K' hK' => ?_
  unfold Oper.wp
  simp [execOp, hop, hx, hl, hh, Instr.sliceAt, run_underlying ht, hrun, Result.andThen]
  exact hK' _ _ hK
/-- One slice more in a row of slices. -/
theorem wpList_append_el1 {P : Program} (w : World) (u : Value) (e0 : TypeId) {ops : Array Oper} {rest : List Oper} {o : Oper} {a : Act} {Q : Exit → Act → World → Prop} (hgd : o.guard = none) (s x : Operand) (t : TypeId)
    (ho : o.op = .call { callee := .builtin .append, args := #[s, x], argTypes := #[t, t] })
    (base : Nat) (e : TypeId) (i : TypeInfo) (z : Value) (bytes : Nat) (ht : P.underlying t = some (.slice e)) (hi : P.info? e = some i) (hz : i.zero = some z)
    (hsize : i.size = 1) (hby : i.bytes = bytes) (hzs : z.cells.size = 1) (hu : u.oneCell' = true)
    (v : Value) (n : Nat) (xs : List Value) (hs : a.eval s = v) (hown : w.ownsRow base e 1 v n xs)
    (hx : a.eval x = .slice (some ⟨w.heap.size, 0, none⟩) 1 1)
    (h63 : n + 1 ≤ maxLen) (hb : (n + 1) * bytes ≤ 140737488355328) (hbase : base ≤ w.heap.size)
    (h : ∀ v' w', w'.ownsRow base e 1 v' (n + 1) (xs ++ [u]) → (w.alloc (.cells #[u] e0)).grownBy w' v.ownBlock → wpList P ops Q rest (a.put o.dst v') w') : wpList P ops Q (o :: rest) a (w.alloc (.cells #[u] e0)) := by
  refine wpList_append_own _ hgd s x t ho base e i z 1 bytes ht hi hz hsize hby hzs (by omega) v n xs hs (hown.alloc _) ⟨w.heap.size, 0, none⟩ 1 1 [u] hx rfl ?_ (by simpa using hu) h63 hb (by simp; omega) fun v' w' k1 k2 _ => h v' w' k1 k2
  intro j y hy
  have hj : j = 0 := by
    rcases Nat.eq_zero_or_pos j with h0 | h0
    · exact h0
    · rw [List.getElem?_eq_none (by simp; omega)] at hy; cases hy
  subst hj
  have hy' : u = y := by simpa using hy
  subst hy'
  simp [Addr.add]
theorem info_rows : (Tryd.prog.info? 23).map (fun i => (i.zero, i.size, i.bytes)) = some (some (.slice none 0 0), 1, 24) := by kernel_rfl
theorem here_app {P : Program} {ops : Array Oper} {rest : List Oper} {a : Act} {w : World} {Q : Exit → Act → World → Prop} {d : Option Tmp} {t : TypeId} {p : String} {f : Array Edge} {g : Option (Tmp × Bool)} (x y : Nat) {ts : Array TypeId} (h : wpList P ops Q (⟨d, .call { callee := .builtin .append, args := #[.tmp x, .tmp y], argTypes := ts }, t, p, f, g⟩ :: rest) a w) : wpList P ops Q (⟨d, .call { callee := .builtin .append, args := #[.tmp x, .tmp y], argTypes := ts }, t, p, f, g⟩ :: rest) a w := h
theorem here_slice {P : Program} {ops : Array Oper} {rest : List Oper} {a : Act} {w : World} {Q : Exit → Act → World → Prop} {d : Option Tmp} {t : TypeId} {p : String} {f : Array Edge} {g : Option (Tmp × Bool)} {ty : TypeId} {x y z : Operand} (h : wpList P ops Q (⟨d, .slice ty x (some y) (some z) none, t, p, f, g⟩ :: rest) a w) : wpList P ops Q (⟨d, .slice ty x (some y) (some z) none, t, p, f, g⟩ :: rest) a w := h
theorem own_kinds {W : World} {B B' n n' : Nat} {e e' : TypeId} {v v' : Value} {xs xs' : List Value} (h : W.ownsRow B e 1 v n xs) (h' : W.ownsRow B' e' 1 v' n' xs') (hne : e ≠ e') : v.ownBlock = none ∨ v.ownBlock ≠ v'.ownBlock := by
  rcases h.2 with ⟨rfl, _⟩ | ⟨g, cap, cur, rfl, _, hg, _⟩
  · exact .inl rfl
  · right
    intro e
    rcases h'.2 with ⟨rfl, _⟩ | ⟨g', cap', cur', rfl, _, hg', _⟩
    · cases e
    · have e : some g = some g' := e
      injection e with e
      subst e
      rw [hg] at hg'
      injection hg' with hg'
      injection hg' with _ h2
      exact hne h2
theorem own_one {v : Value} {W : World} {B n : Nat} {t : TypeId} {xs : List Value} (h : W.ownsRow B t 1 v n xs) : v.oneCell' = true := by
  obtain ⟨A, c, rfl⟩ := own_shape h
  rfl
theorem slice8 (C : Nat) (W : World) : (Instr.sliceAt 66 (.pointer (some ⟨C, 0, none⟩)) none (some (.int .i64 8)) none).run Tryd.prog W = .ok (.slice (some ⟨C, 0, none⟩) 8 32) W := by
  obtain ⟨i0, hi0, hz0, hz1, hz2⟩ := info_parts info_u8
  have e1 : Tryd.prog.arrayLen 66 = 32 := by simp [Program.arrayLen, Tryd.underlying66]
  have e2 : Tryd.prog.elem 66 = 5 := by simp [Program.elem, Tryd.underlying66]
  have e3 : (sizeOf 5).run Tryd.prog W = .ok 1 W := by simp [sizeOf, typeInfo, hi0, hz1]
  rw [run_sliceAt_array_h W 66 ⟨C, 0, none⟩ (by rw [e1, e2]; exact Tryd.underlying66) .i64 8 (by decide) (by rw [e1]; decide), e2, e3]
  simp [slicedAt, e1, Addr.add]
noncomputable def body_lyo : Code := (((Tryd.f16.body.map loopsOf).getD [])[0]?).getD .skip
set_option maxRecDepth 100000 in
set_option maxHeartbeats 40000000 in
theorem lyo_loop (c2 c3 c4 c9 c10 c11 c12 c13 c14 c15 c16 c17 c18 c19 c20 c21 c22 c23 c24 c25 c26 c27 c28 c29 c30 c31 c32 c33 c34 c35 c36 c37 c38 c39 c40 c41 c42 c43 c44 c45 c46 c47 c48 c49 c50 c51 c52 c53 c54 c55 c56 c57 c58 c59 c60 c61 c62 c63 c64 c65 c66 : Value) (Ab : Option Addr) (cb : Nat) (bs : List UInt8) (n c B X : Nat) (w : World) (hr : Hid (Rd w (.slice Ab bs.length cb) bs)) (hc : Hid (c = cntS bs.length ∧ bs.length ≤ 100000 ∧ (n : Int) ≤ 18446744073709551615)) (hx : Hid (Blk w X 66 ((shaB bs).map bv))) (hX : Hid (B = w.heap.size)) {Q : Exit → Act → World → Prop}
    (HQ : Hid (∀ (u8 u9 u18 u19 u20 u21 u22 u23 u24 u25 u26 u27 u28 u29 u30 u31 u32 u33 u34 u35 u36 u37 u38 u39 u40 u41 u42 u43 u44 u45 u46 u47 u48 u49 u50 u51 u52 u53 u54 u55 u56 u57 u58 u59 u60 u61 u62 u63 u64 u65 v : Value) (W : World), Hid (LyoIs bs n B w c v W) → Q (.exit 0) ⟨List.toArray ((.slice Ab bs.length cb) :: (.int .u64 (n : Int)) :: c2 :: c3 :: c4 :: (.int .i64 (c : Int)) :: (.pointer (some ⟨X, 0, none⟩)) :: v :: u8 :: u9 :: c10 :: c11 :: c12 :: c13 :: c14 :: c15 :: c16 :: c17 :: u18 :: u19 :: u20 :: u21 :: u22 :: u23 :: u24 :: u25 :: u26 :: u27 :: u28 :: u29 :: u30 :: u31 :: u32 :: u33 :: u34 :: u35 :: u36 :: u37 :: u38 :: u39 :: u40 :: u41 :: u42 :: u43 :: u44 :: u45 :: u46 :: u47 :: u48 :: u49 :: u50 :: u51 :: u52 :: u53 :: u54 :: u55 :: u56 :: u57 :: u58 :: u59 :: u60 :: u61 :: u62 :: u63 :: u64 :: u65 :: c66 :: []), []⟩ W)) :
    (Code.loop body_lyo).wp Tryd.prog Q ⟨List.toArray ((.slice Ab bs.length cb) :: (.int .u64 (n : Int)) :: c2 :: c3 :: c4 :: (.int .i64 (c : Int)) :: (.pointer (some ⟨X, 0, none⟩)) :: (.slice none 0 0) :: (.int .i64 0) :: c9 :: c10 :: c11 :: c12 :: c13 :: c14 :: c15 :: c16 :: c17 :: c18 :: c19 :: c20 :: c21 :: c22 :: c23 :: c24 :: c25 :: c26 :: c27 :: c28 :: c29 :: c30 :: c31 :: c32 :: c33 :: c34 :: c35 :: c36 :: c37 :: c38 :: c39 :: c40 :: c41 :: c42 :: c43 :: c44 :: c45 :: c46 :: c47 :: c48 :: c49 :: c50 :: c51 :: c52 :: c53 :: c54 :: c55 :: c56 :: c57 :: c58 :: c59 :: c60 :: c61 :: c62 :: c63 :: c64 :: c65 :: c66 :: []), []⟩ w := by
  unfold body_lyo
  conv => arg 2; arg 1; whnf
  go_loopw [7, 8] (fun v x wx => LyoRel bs n c B w v x wx) (fun _ x _ => c - (intOf x).toNat)
  case atStart => exact ⟨0, rfl, Nat.zero_le _, ⟨⟨[], rfl, World.ownsRow_nil _ _ _ _, fun j h => (by cases h)⟩, Below.refl _ _⟩⟩
  case round =>
    obtain ⟨i, rfl, hi, hrow⟩ := hrel
    obtain ⟨hcc, hbl, hnn⟩ := hc.out
    have hcb : c ≤ 1000 := by
      rw [hcc]
      unfold cntS
      split <;> omega
    have cI : (c : Int) ≤ 1000 := by omega
    have HW := Lib.hid hrow
    by_cases hlt : i < c
    · have hI : (i : Int) < c := by omega
      have HLT := Lib.hid hlt
      obtain ⟨i0, hi0, hz0, hz1, hz2⟩ := info_parts info_u8
      obtain ⟨D, hD⟩ : ∃ D, wr.heap.size = D := ⟨_, rfl⟩
      have HD := Lib.hid hD
      have f1 : IntKind.u64.wrap (i : Int) = (i : Int) := IntWalk.u64_in _ (by omega)
      have f2 : IntKind.u64.wrap (c : Int) = (c : Int) := IntWalk.u64_in _ (by omega)
      have f3 : IntKind.u64.wrap (bs.length : Int) = (bs.length : Int) := IntWalk.u64_in _ (by omega)
      have HC := Lib.hid hcc
      have HBL := Lib.hid hbl
      have HNN := Lib.hid hnn
      clear hrow hcc hbl hnn hi hlt hD hcb
      go_wp2_with (fail)
      refine (form_any n 8 wr HNN.out (by decide)).mono ?_
      rintro e w1 ⟨x1, rfl, o1, b1⟩
      rw [HD.out] at o1 b1
      have O1 := Lib.hid o1
      have B1 := Lib.hid b1
      clear o1 b1
      go_wp2_with (fail)
      refine (form_any i 2 w1 (by omega) (by decide)).mono ?_
      rintro e w2 ⟨x2, rfl, o2, b2⟩
      have O1' := Lib.hid (own_lain O1.out b2)
      have R2 := Lib.hid (Rd.of_own o2)
      have B2 := Lib.hid (B1.out.trans (b2.mono (by have := B1.out.size; have := HD.out; omega)))
      clear o2 b2 O1 B1
      go_wp2_with (with_reducible refine here_app 25 28 ?_
                   refine wpList_append_rd _ rfl (.tmp 25) (.tmp 28) _ rfl D 5 i0 _ Tryd.underlying23 hi0 hz0 hz1 hz2 rfl _ _ _ rfl O1'.out _ (leB 2 i) rfl R2.out (by rw [leB_length, leB_length]; decide) (by have := B2.out.size; have := HD.out; omega) ?_
                   intro v2 W2 own g
                   rw [← List.length_append, ← List.map_append] at own
                   have P2 := Lib.hid own
                   have C2 : Hid (Below D wr W2) := Lib.hid (B2.out.grown g (by have := B2.out.size; have := HD.out; omega) (own_ge O1'.out))
                   clear own g)
      clear O1' R2 B2
      refine (form_any c 2 W2 (by omega) (by decide)).mono ?_
      rintro e w3 ⟨x3, rfl, o3, b3⟩
      have O3 := Lib.hid (own_lain P2.out b3)
      have R3 := Lib.hid (Rd.of_own o3)
      have B3 := Lib.hid (C2.out.trans (b3.mono (by have := C2.out.size; have := HD.out; omega)))
      clear o3 b3 P2 C2
      go_wp2_with (with_reducible refine here_app 30 33 ?_
                   refine wpList_append_rd _ rfl (.tmp 30) (.tmp 33) _ rfl D 5 i0 _ Tryd.underlying23 hi0 hz0 hz1 hz2 rfl _ _ _ rfl O3.out _ (leB 2 c) rfl R3.out (by simp only [List.length_append, leB_length]; decide) (by have := B3.out.size; have := HD.out; omega) ?_
                   intro v3 W3 own g
                   rw [← List.length_append, ← List.map_append] at own
                   have P3 := Lib.hid own
                   have C3 : Hid (Below D wr W3) := Lib.hid (B3.out.grown g (by have := B3.out.size; have := HD.out; omega) (own_ge O3.out))
                   clear own g)
      clear O3 R3 B3
      refine (form_any bs.length 4 W3 (by have := HBL.out; omega) (by decide)).mono ?_
      rintro e w4 ⟨x4, rfl, o4, b4⟩
      have O4 := Lib.hid (own_lain P3.out b4)
      have R4 := Lib.hid (Rd.of_own o4)
      have B4 := Lib.hid (C3.out.trans (b4.mono (by have := C3.out.size; have := HD.out; omega)))
      clear o4 b4 P3 C3
      obtain ⟨q, hq⟩ : ∃ q, q = i * 104 := ⟨_, rfl⟩
      have HQ1 := Lib.hid hq
      have hib : i * 104 ≤ 104000 := by have := HLT.out; omega
      have e1 : IntKind.i64.wrap ((i : Int) * 104) = (q : Int) := by rw [IntWalk.i64_in _ (by omega), hq]; omega
      obtain ⟨q2, hq2⟩ : ∃ q2, q2 = q + 104 := ⟨_, rfl⟩
      have HQ2 := Lib.hid hq2
      have e2 : IntKind.i64.wrap ((q : Int) + 104) = (q2 : Int) := by rw [IntWalk.i64_in _ (by omega), hq2]; omega
      have HQ3 : Hid (q ≤ bs.length) := Lib.hid (by have h1 := HC.out; have h2 := HLT.out; unfold cntS at h1; split at h1 <;> omega)
      have HXB : Hid (∀ W, Below D wr W → Blk W X 66 ((shaB bs).map bv)) := Lib.hid fun W hW => (hx.out.below (hX.out ▸ HW.out.below : Below w.heap.size w wr) hx.out.lt).below hW (by have h1 := hx.out.lt; have h2 := HW.out.below.size; have := hX.out; have := HD.out; omega)
      have HRB : Hid (∀ W, Below D wr W → Rd W (.slice Ab bs.length cb) bs) := Lib.hid fun W hW => (hr.out.below (hX.out ▸ HW.out.below : Below w.heap.size w wr)).below (HD.out ▸ hW)
      have HS32 : Hid ((shaB bs).length = 32) := Lib.hid (by simp [shaB, St.bytes, beB_length])
      clear hq hq2 hib
      have C5F : Hid (∀ W, Below D wr W → Rd W (.slice (some ⟨X, 0, none⟩) 8 32) (fp8 bs)) := Lib.hid fun W hW => (HXB.out W hW).rd 8 32 (by rw [HS32.out]; decide) (by decide) (by unfold maxLen; decide)
      obtain ⟨yl, hyl⟩ : ∃ yl, yl = leB 8 n ++ leB 2 i ++ leB 2 c ++ leB 4 bs.length := ⟨_, rfl⟩
      have HYL := Lib.hid hyl
      have HY16 : Hid (yl.length = 16) := Lib.hid (by rw [hyl]; simp [leB_length])
      clear hyl
      obtain ⟨pe, hpe, hpc⟩ : ∃ pe, (pe = bs.length ∨ pe = q2) ∧ pe = min bs.length q2 := ⟨_, by omega, rfl⟩
      have HPE := Lib.hid hpc
      obtain ⟨A6, c6, hs6, hr6⟩ := (HRB.out wr (HD.out ▸ Below.refl _ _)).mid 23 5 i0 Tryd.underlying23 hi0 hz1 q pe (by have := HQ2.out; have := HQ3.out; omega) (by omega)
      have H6 := Lib.hid hr6
      have HB6 : Hid (∀ W, Below D wr W → Rd W (.slice A6 (pe - q) c6) ((bs.drop q).take (pe - q))) := Lib.hid fun W hW => H6.out.below (HD.out ▸ hW)
      clear hr6 H6
      by_cases hle : bs.length ≤ q2
      case' pos =>
        have HY6 : Hid (yl ++ fp8 bs ++ (bs.drop q).take (pe - q) = partS fp8 bs n i) := Lib.hid (by
          rw [HYL.out]
          unfold partS hdrS
          rw [← HC.out, HQ1.out, Nat.mul_comm i 104, List.take_of_length_le (l := bs.drop (104 * i)) (i := 104) (by rw [List.length_drop]; have := HQ1.out; have := HQ2.out; omega), List.take_of_length_le (by rw [List.length_drop]; have := HQ1.out; omega)])
        obtain rfl : pe = bs.length := by omega
        have hleI : (bs.length : Int) ≤ (q2 : Int) := by omega
        clear hpe hpc hle
        have HSL := Lib.hid hs6
        clear hs6
        go_wp2_with (first
          | (with_reducible refine here_slice ?_
             refine wpList_slice_is rfl 23 _ Tryd.underlying23 _ _ _ rfl _ _ _ _ _ _ rfl rfl rfl HSL.out ?_)
          | (with_reducible refine here_app 35 39 ?_
             refine wpList_append_rd _ rfl (.tmp 35) (.tmp 39) _ rfl D 5 i0 _ Tryd.underlying23 hi0 hz0 hz1 hz2 rfl _ _ _ rfl O4.out _ (leB 4 bs.length) rfl R4.out (by simp only [List.length_append, leB_length]; decide) (by have := B4.out.size; have := HD.out; omega) ?_
             intro v4 W4 own g
             rw [← List.length_append, ← List.map_append, ← HYL.out] at own
             have P4 := Lib.hid own
             have C4 : Hid (Below D wr W4) := Lib.hid (B4.out.grown g (by have := B4.out.size; have := HD.out; omega) (own_ge O4.out))
             have R5 := Lib.hid (C5F.out W4 C4.out)
             clear own g)
          | (with_reducible refine here_app 41 42 ?_
             refine wpList_append_rd _ rfl (.tmp 41) (.tmp 42) _ rfl D 5 i0 _ Tryd.underlying23 hi0 hz0 hz1 hz2 rfl _ _ _ rfl P4.out _ (fp8 bs) rfl R5.out (by rw [HY16.out, fp8_length]; decide) (by have := C4.out.size; have := HD.out; omega) ?_
             intro v5 W5 own g
             rw [← List.length_append, ← List.map_append] at own
             have P5 := Lib.hid own
             have C5 : Hid (Below D wr W5) := Lib.hid (C4.out.grown g (by have := C4.out.size; have := HD.out; omega) (own_ge P4.out))
             have R6 := Lib.hid (HB6.out W5 C5.out)
             clear own g)
          | (with_reducible refine here_app 44 54 ?_
             refine wpList_append_rd _ rfl (.tmp 44) (.tmp 54) _ rfl D 5 i0 _ Tryd.underlying23 hi0 hz0 hz1 hz2 rfl _ _ _ rfl P5.out _ _ rfl R6.out (by rw [List.length_append, HY16.out, fp8_length, List.length_take]; have := HBL.out; omega) (by have := C5.out.size; have := HD.out; omega) ?_
             intro v6 W6 own g
             rw [← List.length_append, ← List.map_append] at own
             have P6 := Lib.hid own
             have C6 : Hid (Below D wr W6) := Lib.hid (C5.out.grown g (by have := C5.out.size; have := HD.out; omega) (own_ge P5.out))
             clear own g))
      case' neg =>
        have HY6 : Hid (yl ++ fp8 bs ++ (bs.drop q).take (pe - q) = partS fp8 bs n i) := Lib.hid (by
          rw [HYL.out]
          unfold partS hdrS
          rw [← HC.out, HQ1.out, Nat.mul_comm i 104, show pe - 104 * i = 104 by have := HQ1.out; have := HQ2.out; omega])
        obtain rfl : pe = q2 := by omega
        have hleI : (pe : Int) < (bs.length : Int) := by omega
        clear hpe hpc hle
        have HSL := Lib.hid hs6
        clear hs6
        go_wp2_with (first
          | (with_reducible refine here_slice ?_
             refine wpList_slice_is rfl 23 _ Tryd.underlying23 _ _ _ rfl _ _ _ _ _ _ rfl rfl rfl HSL.out ?_)
          | (with_reducible refine here_app 35 39 ?_
             refine wpList_append_rd _ rfl (.tmp 35) (.tmp 39) _ rfl D 5 i0 _ Tryd.underlying23 hi0 hz0 hz1 hz2 rfl _ _ _ rfl O4.out _ (leB 4 bs.length) rfl R4.out (by simp only [List.length_append, leB_length]; decide) (by have := B4.out.size; have := HD.out; omega) ?_
             intro v4 W4 own g
             rw [← List.length_append, ← List.map_append, ← HYL.out] at own
             have P4 := Lib.hid own
             have C4 : Hid (Below D wr W4) := Lib.hid (B4.out.grown g (by have := B4.out.size; have := HD.out; omega) (own_ge O4.out))
             have R5 := Lib.hid (C5F.out W4 C4.out)
             clear own g)
          | (with_reducible refine here_app 41 42 ?_
             refine wpList_append_rd _ rfl (.tmp 41) (.tmp 42) _ rfl D 5 i0 _ Tryd.underlying23 hi0 hz0 hz1 hz2 rfl _ _ _ rfl P4.out _ (fp8 bs) rfl R5.out (by rw [HY16.out, fp8_length]; decide) (by have := C4.out.size; have := HD.out; omega) ?_
             intro v5 W5 own g
             rw [← List.length_append, ← List.map_append] at own
             have P5 := Lib.hid own
             have C5 : Hid (Below D wr W5) := Lib.hid (C4.out.grown g (by have := C4.out.size; have := HD.out; omega) (own_ge P4.out))
             have R6 := Lib.hid (HB6.out W5 C5.out)
             clear own g)
          | (with_reducible refine here_app 44 54 ?_
             refine wpList_append_rd _ rfl (.tmp 44) (.tmp 54) _ rfl D 5 i0 _ Tryd.underlying23 hi0 hz0 hz1 hz2 rfl _ _ _ rfl P5.out _ _ rfl R6.out (by rw [List.length_append, HY16.out, fp8_length, List.length_take]; have := HBL.out; omega) (by have := C5.out.size; have := HD.out; omega) ?_
             intro v6 W6 own g
             rw [← List.length_append, ← List.map_append] at own
             have P6 := Lib.hid own
             have C6 : Hid (Below D wr W6) := Lib.hid (C5.out.grown g (by have := C5.out.size; have := HD.out; omega) (own_ge P5.out))
             clear own g))
      all_goals
        have P7 := P6.out
        rw [HY6.out] at P7
        have HP7 := Lib.hid P7
        have HPL : Hid ((partS fp8 bs n i).length ≤ 128) := Lib.hid (partS_length fp8 fp8_length bs n i)
        clear P7 P6 P5 P4 R5 R6 HB6 C5F
        refine lyp_loop _ _ _ _ _ _ _ _ _ _ _ _ _ _ _ _ _ _ _ _ _ _ _ _ _ _ _ _ _ _ _ _ _ _ _ _ _ _ _ _ _ _ _ _ _ _ _ _ _ _ _ _ _ _ _ _ _ _ _ _ _ _ _ _ _ _ _ (partS fp8 bs n i) D W6 (Lib.hid (by have := C6.out.size; have := HD.out; omega)) HPL HP7 (Lib.hid ?_)
        intro u56 u57 u58 u59 u60 u61 v8 W8 HE
        obtain ⟨A8, c8, rfl⟩ := own_shape HE.out.1
        obtain ⟨r0, hr0, hrz, hr1, hr2⟩ := info_parts info_rows
        obtain ⟨ls, hls, horow, hrows⟩ := HW.out.row
        have C8 : Hid (Below D wr W8) := Lib.hid (C6.out.trans (HE.out.2.mono (Nat.le_refl _)))
        have OR8 := Lib.hid (own_lain horow (HD.out ▸ C8.out : Below wr.heap.size wr W8))
        have RW8 : Hid (∀ j (h : j < ls.length), W8.ownsRow B 5 1 ls[j] 128 ((pad128 (partS fp8 bs n j)).map bv)) := Lib.hid fun j h => own_lain (hrows j h) (HD.out ▸ C8.out : Below wr.heap.size wr W8)
        have HLS := Lib.hid hls
        have hBD : B ≤ D := by have h1 := HW.out.below.size; have := hX.out; have := HD.out; omega
        have HBD := Lib.hid hBD
        have V1 := own_one HE.out.1
        have HV1 := Lib.hid V1
        clear hls horow hrows hBD V1 HP7
        go_wp2_with (with_reducible refine here_app 62 64 ?_
                     refine wpList_append_el1 W8 (.slice A8 128 c8) _ rfl (.tmp 62) (.tmp 64) _ rfl B 23 r0 _ 24 Tryd.underlying22 hr0 hrz hr1 hr2 rfl HV1.out _ _ _ rfl OR8.out rfl (by have := HLT.out; unfold maxLen; omega) (by have := HLT.out; omega) (by have := C8.out.size; have := HBD.out; have := HD.out; omega) ?_
                     intro v9 W9 own g
                     have O9 := Lib.hid own
                     have G9 := Lib.hid g
                     clear own g
                     go_frame)
        have hlt := HLT.out
        have z8 := C8.out.size
        have hd := HD.out
        have hbd := HBD.out
        refine ⟨⟨i + 1, by go_num, by omega, ⟨⟨ls ++ [.slice A8 128 c8], by rw [List.length_append, HLS.out]; rfl, O9.out, fun j hj => ?_⟩, ?_⟩⟩, by simp [intOf]; omega⟩
        · by_cases e : j < ls.length
          · rw [List.getElem_append_left e]
            exact ((RW8.out j e).alloc _).kept G9.out (own_kinds (RW8.out j e) OR8.out (by decide))
          · have ej : j = i := by rw [List.length_append, HLS.out] at hj; have := HLS.out; simp at hj; omega
            subst ej
            rw [List.getElem_append_right (by rw [HLS.out]; exact Nat.le_refl _)]
            simp only [HLS.out, Nat.sub_self, List.getElem_cons_zero]
            exact ((own_mono HE.out.1 hbd).alloc _).kept G9.out (own_kinds HE.out.1 OR8.out (by decide))
        · exact ((HW.out.below.trans (C8.out.mono hbd)).alloc (by omega) _).grown G9.out (by rw [World.size_alloc]; omega) (own_ge OR8.out)
    · obtain rfl : i = c := by omega
      clear hrow hi hlt
      go_wp2_with (fail)
      exact HQ.out _ _ _ _ _ _ _ _ _ _ _ _ _ _ _ _ _ _ _ _ _ _ _ _ _ _ _ _ _ _ _ _ _ _ _ _ _ _ _ _ _ _ _ _ _ _ _ _ _ _ _ _ HW
end Go.Proofs.YtnaccngcpjkmbaaDoor
