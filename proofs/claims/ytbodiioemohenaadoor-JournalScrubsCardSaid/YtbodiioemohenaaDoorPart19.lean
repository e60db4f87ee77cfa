/- Part 19 of the words that the laws share: JnAw, SlcWord, JnScr. No condition of its own: each theorem says its own. -/
import Derived.Test.YtbodiioemohenaaDoorPart18
import Derived.Test.YtbodiioemohenaaDoorPart9
import Derived.Test.YtbodiioemohenaaDoorPart12
import Derived.Test.YtbodiioemohenaaDoorPart16
import Derived.Lib.SlBytesConst
import Derived.Laws.IdiomStrings

/- The eleventh layer's awake answers true. Premises: the contracts of the developers' disk and journal; the fingerprint's table is laid. -/
namespace Go.Proofs.YtbodiioemohenaaDoor
open Go.RowKit

theorem lit1 (w : World) (b : UInt8) : Rd (w.alloc (.cells #[.int .u8 (b.toNat : Int)] 5 (1, 2))) (.slice (some ⟨w.heap.size, 0, none⟩) 1 1) [b] := rd_litm [b] 1 1 rfl (Nat.le_refl _) (by unfold maxLen; omega)
theorem conv_one {W : World} {u : Value} {b : UInt8} (hu : Rd W u [b]) : (convert 23 9 u).run Tryd.prog W = .ok (.string ⟨#[b]⟩) W := by
  rcases hu with ⟨_, _, _, _, _, h⟩ | ⟨g, off, c, rfl, _, _, _, h⟩
  · cases h
  · exact run_convert_bytes_back W 23 9 5 ⟨g, off, none⟩ c [b] Tryd.underlying23 Tryd.underlying5 Tryd.underlying9 fun j hj => by
      obtain rfl : j = 0 := by simpa using hj
      exact h 0 (by simp)
section
variable {DC : DiskW} {JC : JournC DC} {w0 : World} {sp dp : Value} {st : JS} {S : DS} {R : List (Value × List UInt8)} {W : World}
theorem jk_appendR {n nu p : Nat} (h : JKeep JC w0 sp dp ⟨true, n, nu, p⟩ S R W) {v : Value} {bs : List UInt8} (hv : (v, bs) ∈ R) (hl : bs.length ≤ 4096) (hp : p + cntR bs.length ≤ 1024) (hnu : nu < 1000000) (hn : n ≤ 1000000) (hd : S.dead = false) (ho : S.ops < 50000) :
    Calls Tryd.prog 10 #[sp, v] W fun e W' => e = .returned (.int .i64 ((layS S p (partsR bs n nu)).2 : Int)) ∧ ∃ st', ((layS S p (partsR bs n nu)).2 = 0 → st' = ⟨true, n, nu + 1, p + cntR bs.length⟩) ∧ JKeep JC w0 sp dp st' (layS S p (partsR bs n nu)).1 R W' := by
  obtain ⟨F, h1, h2, h3, h4⟩ := h
  refine (JC.append h1 v bs (h4 _ hv).1 (h4 _ hv).2 hl hp hnu hn hd ho).mono ?_
  rintro e W' ⟨rfl, st', h5, h6⟩
  exact ⟨rfl, st', h5, JKeep.step h2 h3 h4 h6⟩
theorem jk_stale (h : JKeep JC w0 sp dp st S R W) (hs : st.fresh = false) : Calls Tryd.prog 10 #[sp, .slice none 0 0] W fun e W' => e = .returned (.int .i64 13) ∧ Below w0.heap.size w0 W' := by
  obtain ⟨F, h1, h2, h3, h4⟩ := h
  exact (JC.stale h1 hs _ [] (Rd.nil _)).mono fun _ _ ⟨h5, h6⟩ => ⟨h5, h3.trans (h6.mono h3.size)⟩
/-- A byte laid beside a store. -/
theorem JKeep.lit (h : JKeep JC w0 sp dp st S R W) (b : UInt8) : JKeep JC w0 sp dp st S ((.slice (some ⟨W.heap.size, 0, none⟩) 1 1, [b]) :: R) (W.alloc (.cells #[.int .u8 (b.toNat : Int)] 5 (1, 2))) :=
  h.add ((Below.refl _ _).alloc (Nat.le_refl _) _) (lit1 W b) fun j hj => by
    have e : W.heap.size = j := by simpa [Value.ownBlock] using hj
    omega
end
set_option maxRecDepth 100000 in
set_option maxHeartbeats 4000000 in
theorem awakeJ_any (DC : DiskW) (JC : JournC DC) (w : World) (hs : Salts w) : Calls Tryd.prog 5 #[] w fun e w' => e = .returned (.bool true) ∧ Below w.heap.size w w' := by
  have kc := fun (w : World) (C : Array Value) (n c : Nat) => Lib.run_convert_bytes_const (P := Tryd.prog) w 23 5 C n c Tryd.underlying23 Tryd.underlying5
  have HS := Lib.hid hs
  obtain ⟨S1, e1, hS1⟩ : ∃ S1 e1, saveS fp8 newS 0 256 [105] false = (S1, e1) := ⟨_, _, rfl⟩
  obtain ⟨S2, e2, hS2⟩ : ∃ S2 e2, layS S1 512 (partsR [97] 1 0) = (S2, e2) := ⟨_, _, rfl⟩
  obtain ⟨S3, e3, hS3⟩ : ∃ S3 e3, layS S2 513 (partsR [98] 1 1) = (S3, e3) := ⟨_, _, rfl⟩
  obtain ⟨a1, a2, a3, d1, d2, o1, o2, hld, hrc⟩ := jn_example hS1 hS2 hS3
  subst a1 a2 a3
  have HS1 := Lib.hid hS1
  have HS2 := Lib.hid hS2
  have HS3 := Lib.hid hS3
  have HEX : Hid (mostS newS 0 256 = 0 ∧ S1.dead = false ∧ S2.dead = false ∧ S1.ops ≤ 400 ∧ S2.ops ≤ 800) := Lib.hid ⟨most_new 0 256, d1, d2, o1, o2⟩
  have HLD := Lib.hid hld
  have HRC := Lib.hid hrc
  clear hs hS1 hS2 hS3 d1 d2 o1 o2 hld hrc
  go_enter Tryd.func5, Tryd.ntmps5
  go_wp2_with (fail)
  refine (jk_new (DC := DC) w).mono ?_
  rintro e w1 ⟨dp, rfl, k1⟩
  have K1 := Lib.hid k1
  clear k1
  go_wp2_with (fail)
  refine (jk_open (JC := JC) K1.out).mono ?_
  rintro e w2 ⟨X, st0, rfl, _, k2⟩
  obtain ⟨V2, hV2⟩ : ∃ W : World, W = w2.alloc (.cells #[.int .u8 105] 5 (1, 2)) := ⟨_, rfl⟩
  have k2 := k2.lit 105
  have K2 : Hid (JKeep JC w (.pointer (some X)) dp st0 newS [(.slice (some ⟨w2.heap.size, 0, none⟩) 1 1, [105])] V2) := Lib.hid (by rw [hV2]; exact k2)
  clear k2 K1
  go_wp2_with (fail)
  rw [← hV2]
  clear hV2
  refine (jk_save K2.out HS.out (List.mem_singleton.2 rfl) (by decide) rfl (by rw [HEX.out.1]; decide) (by decide)).mono ?_
  rintro e w3 ⟨rfl, st1, h1, k3⟩
  rw [HS1.out] at h1 k3 ⊢
  have h1 := h1 rfl
  rw [HEX.out.1] at h1
  subst h1
  obtain ⟨V3, hV3⟩ : ∃ W : World, W = w3.alloc (.cells #[.int .u8 97] 5 (1, 2)) := ⟨_, rfl⟩
  have k3 := JKeep.lit k3 97
  have K3 : Hid (JKeep JC w (.pointer (some X)) dp ⟨true, 1, 0, 512⟩ S1 [(.slice (some ⟨w3.heap.size, 0, none⟩) 1 1, [97]), (.slice (some ⟨w2.heap.size, 0, none⟩) 1 1, [105])] V3) := Lib.hid (by rw [hV3]; exact k3)
  clear k3 K2
  go_wp2_with (fail)
  rw [← hV3]
  clear hV3
  refine (jk_appendR K3.out (List.mem_cons_self ..) (by decide) (by decide) (by decide) (by decide) HEX.out.2.1 (by have := HEX.out.2.2.2.1; omega)).mono ?_
  rintro e w4 ⟨rfl, st2, h2, k4⟩
  rw [HS2.out] at h2 k4 ⊢
  have h2 := h2 rfl
  subst h2
  obtain ⟨V4, hV4⟩ : ∃ W : World, W = w4.alloc (.cells #[.int .u8 98] 5 (1, 2)) := ⟨_, rfl⟩
  have k4 := JKeep.lit k4 98
  have K4 : Hid (JKeep JC w (.pointer (some X)) dp ⟨true, 1, 1, 513⟩ S2 [(.slice (some ⟨w4.heap.size, 0, none⟩) 1 1, [98]), (.slice (some ⟨w3.heap.size, 0, none⟩) 1 1, [97]), (.slice (some ⟨w2.heap.size, 0, none⟩) 1 1, [105])] V4) := Lib.hid (by rw [hV4]; exact k4)
  clear k4 K3
  go_wp2_with (fail)
  rw [← hV4]
  clear hV4
  refine (jk_appendR K4.out (List.mem_cons_self ..) (by decide) (by decide) (by decide) (by decide) HEX.out.2.2.1 (by have := HEX.out.2.2.2.2; omega)).mono ?_
  rintro e w5 ⟨rfl, st3, _, k5⟩
  rw [HS3.out] at k5 ⊢
  have K5 := Lib.hid k5.disk
  clear k5 K4
  go_wp2_with (fail)
  refine (dk_boot K5.out (Rd.nil w) (by decide)).mono ?_
  rintro e w6 ⟨rfl, k6⟩
  have K6 := Lib.hid k6
  clear k6 K5
  go_wp2_with (fail)
  refine (jk_open (JC := JC) K6.out).mono ?_
  rintro e w7 ⟨Y, st4, rfl, f4, k7⟩
  have K7 := Lib.hid k7
  have F4 := Lib.hid f4
  clear k7 f4 K6
  go_wp2_with (fail)
  refine (jk_recover K7.out HS.out [[97], [98]] fun b n s hl => ?_).mono ?_
  · obtain ⟨q, hq⟩ := HLD.out
    rw [hq] at hl
    obtain ⟨rfl, rfl, rfl⟩ : [105] = b ∧ 1 = n ∧ q = s := by simpa using hl
    exact HRC.out
  rintro e w8 ⟨ha, k8, _⟩
  obtain ⟨q, hq⟩ := HLD.out
  rw [hq] at ha
  obtain ⟨u, v, rfl, hu, hv⟩ := ha
  obtain ⟨A, c, rfl, _, hv⟩ := hv.ex
  obtain ⟨g, o, x0, rfl, _, c0, r0, _⟩ := hv 0 (by decide)
  obtain ⟨g', o', x1, hA, _, c1, r1, _⟩ := hv 1 (by decide)
  obtain ⟨rfl, rfl⟩ : g = g' ∧ o = o' := by simpa using hA
  obtain ⟨Ax, cx, rfl, _⟩ := r0.form
  obtain ⟨Ay, cy, rfl, _⟩ := r1.form
  obtain ⟨Au, cu, rfl, _⟩ := hu.form
  have c0 : w8.cell? ⟨g, o, none⟩ = some (.slice Ax 1 cx) := c0
  have c1 : w8.cell? ⟨g, o + 1, none⟩ = some (.slice Ay 1 cy) := c1
  have u0 : (convert 23 9 (.slice Au 1 cu)).run Tryd.prog w8 = .ok (.string ⟨#[105]⟩) w8 := conv_one (b := 105) hu
  have u1 : (convert 23 9 (.slice Ax 1 cx)).run Tryd.prog w8 = .ok (.string ⟨#[97]⟩) w8 := conv_one (b := 97) r0
  have u2 : (convert 23 9 (.slice Ay 1 cy)).run Tryd.prog w8 = .ok (.string ⟨#[98]⟩) w8 := conv_one (b := 98) r1
  have K8 := Lib.hid k8
  clear k8 K7 hu r0 r1 hv hA hq
  go_wp2_with (fail)
  refine (jk_stale K8.out F4.out).mono ?_
  rintro e w9 ⟨rfl, b9⟩
  go_wp2_with (fail)
  go_ret
  exact ⟨rfl, b9⟩
end Go.Proofs.YtbodiioemohenaaDoor

/- A piece of a slice as a fact says, one slice more in a row of slices, guards of arms. No condition of its own. -/
namespace Go.Proofs.YtbodiioemohenaaDoor
open Go.RowKit

/-- Sectors laid so far: a row of slices, each a row of its own. -/
structure LyoIs (bs : List UInt8) (n B : Nat) (w : World) (i : Nat) (v : Value) (W : World) : Prop where
  row : ∃ ls : List Value, ls.length = i ∧ W.ownsRow B 23 1 v i ls ∧ ∀ j (h : j < ls.length), W.ownsRow B 5 1 ls[j] 128 ((pad128 (partS fp8 bs n j)).map bv)
  below : Below B w W
def LyoRel (bs : List UInt8) (n c B : Nat) (w : World) (v x : Value) (W : World) : Prop := ∃ i : Nat, x = .int .i64 (i : Int) ∧ i ≤ c ∧ LyoIs bs n B w i v W
/-- A piece of a slice, as a fact says. -/
theorem wpList_slice_is {P : Program} {ops : Array Oper} {rest : List Oper} {o : Oper} {a : Act} {w : World} {Q : Exit → Act → World → Prop} (hgd : o.guard = none) (t e : TypeId) (ht : P.underlying t = some (.slice e)) (x l h : Operand) (hop : o.op = .slice t x (some l) (some h) none) (A : Option Addr) (n c : Nat) (r L H : Value) (hx : a.eval x = .slice A n c) (hl : a.eval l = L) (hh : a.eval h = H)
    (hrun : ∀ W, (Instr.slice t (.slice A n c) (some L) (some H) none).run P W = .ok r W) (hK : wpList P ops Q rest (a.put o.dst r) w) : wpList P ops Q (o :: rest) a w := by
  refine wpList_plain hgd fun K' hK' => ?_
  unfold Oper.wp
  simp [execOp, hop, hx, hl, hh, Instr.sliceAt, run_underlying ht, hrun, Result.andThen]
  exact hK' _ _ hK
/-- One slice more in a row of slices. -/
theorem wpList_append_el1 {P : Program} (w : World) (u : Value) (e0 : TypeId) {ops : Array Oper} {rest : List Oper} {o : Oper} {a : Act} {Q : Exit → Act → World → Prop} (hgd : o.guard = none) (s x : Operand) (t : TypeId)
    (ho : o.op = .call { callee := .builtin .append, args := #[s, x], argTypes := #[t, t] })
    (base : Nat) (e : TypeId) (i : TypeInfo) (z : Value) (bytes : Nat) (ht : P.underlying t = some (.slice e)) (hi : P.info? e = some i) (hz : i.zero = some z)
    (hsize : i.size = 1) (hby : i.bytes = bytes) (hzs : z.cells.size = 1) (hu : u.oneCell' = true)
    (v : Value) (n : Nat) (xs : List Value) (hs : a.eval s = v) (hown : w.ownsRow base e 1 v n xs)
    (hx : a.eval x = .slice (some ⟨w.heap.size, 0, none⟩) 1 1)
    (h63 : n + 1 ≤ maxLen) (hb : (n + 1) * bytes ≤ 140737488355328) (hbase : base ≤ w.heap.size)
    (h : ∀ v' w', w'.ownsRow base e 1 v' (n + 1) (xs ++ [u]) → (w.alloc (.cells #[u] e0)).grownBy w' v.ownBlock → wpList P ops Q rest (a.put o.dst v') w') : wpList P ops Q (o :: rest) a (w.alloc (.cells #[u] e0)) := by
  refine wpList_append_own _ hgd s x t ho base e i z 1 bytes ht hi hz hsize hby hzs (by omega) v n xs hs (hown.alloc _) ⟨w.heap.size, 0, none⟩ 1 1 [u] hx rfl ?_ (by simpa using hu) h63 hb (by simp; omega) fun v' w' k1 k2 _ => h v' w' k1 k2
  intro j y hy
  have hj : j = 0 := by
    rcases Nat.eq_zero_or_pos j with h0 | h0
    · exact h0
    · rw [List.getElem?_eq_none (by simp; omega)] at hy; cases hy
  subst hj
  have hy' : u = y := by simpa using hy
  subst hy'
  simp [Addr.add]
theorem info_rows : (Tryd.prog.info? 23).map (fun i => (i.zero, i.size, i.bytes)) = some (some (.slice none 0 0), 1, 24) := by kernel_rfl
theorem here_app {P : Program} {ops : Array Oper} {rest : List Oper} {a : Act} {w : World} {Q : Exit → Act → World → Prop} {d : Option Tmp} {t : TypeId} {p : String} {f : Array Edge} {g : Option (Tmp × Bool)} (x y : Nat) {ts : Array TypeId} (h : wpList P ops Q (⟨d, .call { callee := .builtin .append, args := #[.tmp x, .tmp y], argTypes := ts }, t, p, f, g⟩ :: rest) a w) : wpList P ops Q (⟨d, .call { callee := .builtin .append, args := #[.tmp x, .tmp y], argTypes := ts }, t, p, f, g⟩ :: rest) a w := h
theorem here_slice {P : Program} {ops : Array Oper} {rest : List Oper} {a : Act} {w : World} {Q : Exit → Act → World → Prop} {d : Option Tmp} {t : TypeId} {p : String} {f : Array Edge} {g : Option (Tmp × Bool)} {ty : TypeId} {x y z : Operand} (h : wpList P ops Q (⟨d, .slice ty x (some y) (some z) none, t, p, f, g⟩ :: rest) a w) : wpList P ops Q (⟨d, .slice ty x (some y) (some z) none, t, p, f, g⟩ :: rest) a w := h
theorem own_kinds {W : World} {B B' n n' : Nat} {e e' : TypeId} {v v' : Value} {xs xs' : List Value} (h : W.ownsRow B e 1 v n xs) (h' : W.ownsRow B' e' 1 v' n' xs') (hne : e ≠ e') : v.ownBlock = none ∨ v.ownBlock ≠ v'.ownBlock := by
  rcases h.2 with ⟨rfl, _⟩ | ⟨g, cap, cur, rfl, _, hg, _⟩
  · exact .inl rfl
  · right
    intro e
    rcases h'.2 with ⟨rfl, _⟩ | ⟨g', cap', cur', rfl, _, hg', _⟩
    · cases e
    · have e : some g = some g' := e
      injection e with e
      subst e
      rw [hg] at hg'
      injection hg' with hg'
      injection hg' with _ h2
      exact hne h2
theorem own_one {v : Value} {W : World} {B n : Nat} {t : TypeId} {xs : List Value} (h : W.ownsRow B t 1 v n xs) : v.oneCell' = true := by
  obtain ⟨A, c, rfl⟩ := own_shape h
  rfl
theorem slice8 (C : Nat) (W : World) : (Instr.sliceAt 104 (.pointer (some ⟨C, 0, none⟩)) none (some (.int .i64 8)) none).run Tryd.prog W = .ok (.slice (some ⟨C, 0, none⟩) 8 32) W := by
  obtain ⟨i0, hi0, hz0, hz1, hz2⟩ := info_parts info_u8
  have e1 : Tryd.prog.arrayLen 104 = 32 := by simp [Program.arrayLen, Tryd.underlying104]
  have e2 : Tryd.prog.elem 104 = 5 := by simp [Program.elem, Tryd.underlying104]
  have e3 : (sizeOf 5).run Tryd.prog W = .ok 1 W := by simp [sizeOf, typeInfo, hi0, hz1]
  rw [run_sliceAt_array_h W 104 ⟨C, 0, none⟩ (by rw [e1, e2]; exact Tryd.underlying104) .i64 8 (by decide) (by rw [e1]; decide), e2, e3]
  simp [slicedAt, e1, Addr.add]
end Go.Proofs.YtbodiioemohenaaDoor

/- What a scrub leaves: both slots laid with the image, bytes 00 behind them. No program in sight. Conditions: no fuse is set; the image is short. -/
namespace Go.Proofs.YtbodiioemohenaaDoor
open Go.RowKit

theorem view_one {S S' : DS} {i : Nat} {x : List UInt8} (h : S'.L = writeL S.L i x) (q : Nat) : viewS S' 0 q = if q = i then some (pad128 x) else viewS S 0 q := by
  obtain ⟨T, hT⟩ : ∃ T : DS, T = { S with L := S'.L.map safeP } := ⟨_, rfl⟩
  have h1 := view_safe S T rfl i [x] (by rw [hT, ← show S'.L = writesL S.L i [x] from h]) 0 q
  have h2 := view_safe S' T rfl 0 [] (by rw [hT]; rfl) 0 q
  rw [List.length_nil, if_neg (by omega)] at h2
  rw [← h2, h1, List.length_singleton]
  by_cases e : q = i
  · subst e
    rw [if_pos (by omega), if_pos rfl, Nat.zero_add, Nat.sub_self]
    rfl
  · rw [if_neg (by omega), if_neg e]
theorem view_sync {S T : DS} (h : T.L = S.L.map safeP) (q : Nat) : viewS T 0 q = viewS S 0 q := by
  have h2 := view_safe S T rfl 0 [] h 0 q
  rwa [List.length_nil, if_neg (by omega)] at h2
theorem clear_is : ∀ (is : List Nat) (S : DS), S.dead = false → S.fuse = 0 → OpnOk S.L → DOk S → (∀ i ∈ is, i < 1024) →
    (clearS S is).2 = 0 ∧ (clearS S is).1.dead = false ∧ (clearS S is).1.fuse = 0 ∧ OpnOk (clearS S is).1.L ∧ DOk (clearS S is).1 ∧ (clearS S is).1.ops ≤ S.ops + is.length ∧
    ∀ q, viewS (clearS S is).1 0 q = if q ∈ is then some z128 else viewS S 0 q
  | [], S, hd, hf, ho, hk, _ => ⟨rfl, hd, hf, ho, hk, Nat.le_refl _, fun q => by rw [if_neg (List.not_mem_nil)]; rfl⟩
  | i :: is, S, hd, hf, ho, hk, hi => by
    have hi0 := hi i (List.mem_cons_self ..)
    obtain ⟨h1, h2⟩ := writeS_none hd hf (a := i) hi0 (x := []) (by decide)
    obtain ⟨h3, h4, h5⟩ := writeS_is hd (a := i) hi0 (x := []) (by decide)
    have h6 : (writeS S (i : Int) []).1.dead = false := by
      rcases h5 with ⟨h5, _⟩ | ⟨_, h5⟩
      · rw [h1] at h5
        cases h5
      · exact h5
    have e : clearS S (i :: is) = clearS (writeS S (i : Int) []).1 is := by
      show (if (writeS S (i : Int) []).2 = 0 then _ else _) = _
      rw [if_pos h1]
    rw [e]
    obtain ⟨k1, k2, k3, k4, k5, k6, k7⟩ := clear_is is (writeS S (i : Int) []).1 h6 h2 (by rw [h3]; exact opn_write ho i []) (dok_of (dok_writeL hk hi0 (bs := []) (by decide)) h3) fun j hj => hi j (List.mem_cons_of_mem _ hj)
    refine ⟨k1, k2, k3, k4, k5, by rw [List.length_cons]; omega, fun q => ?_⟩
    rw [k7, view_one h3]
    by_cases g : q ∈ is
    · rw [if_pos g, if_pos (List.mem_cons_of_mem _ g)]
    · by_cases g2 : q = i
      · rw [if_neg g, if_pos g2, if_pos (by rw [g2]; exact List.mem_cons_self ..)]
        rfl
      · rw [if_neg g, if_neg g2, if_neg (by rw [List.mem_cons]; exact fun h => h.elim g2 g)]
theorem dirty_mem {S : DS} {q : Nat} : q ∈ dirtyS S ↔ (512 ≤ q ∧ q < 1024) ∧ viewS S 0 q ≠ some z128 := by
  unfold dirtyS
  rw [List.mem_filter, List.mem_map]
  simp only [List.mem_range, Bool.not_eq_true', decide_eq_false_iff_not]
  constructor
  · rintro ⟨⟨a, h1, rfl⟩, h2⟩
    exact ⟨⟨by omega, by omega⟩, h2⟩
  · rintro ⟨⟨h1, h2⟩, h3⟩
    exact ⟨⟨q - 512, by omega, by omega⟩, h3⟩
theorem dirty_len (S : DS) : (dirtyS S).length ≤ 512 := by
  unfold dirtyS
  refine Nat.le_trans (List.length_filter_le _ _) ?_
  rw [List.length_map, List.length_range]
  exact Nat.le_refl _
theorem scrub_is {S : DS} (hc : Calm S) (h0 : S.fuse = 0) {img : List UInt8} (hi : img.length ≤ 20000) {m : Nat} (hm : mostS S 0 256 = m) (hm2 : m < 1000000) :
    ∃ T, scrubS S img = (T, 0) ∧ mostS (saveS fp8 S 0 256 img true).1 0 256 + 1 = m + 2 ∧ Calm T ∧ T.fuse = 0 ∧ T.ops ≤ S.ops + 1100 ∧
      (∃ s, s ≤ 1 ∧ ∀ i, i < 256 → viewS T 0 (256 * s + i) = some (secW fp8 img (m + 2) i) ∧ viewS T 0 (256 * (1 - s) + i) = some (secW fp8 img (m + 1) i)) ∧ ∀ q, 512 ≤ q → q < 1024 → viewS T 0 q = some z128 := by
  obtain ⟨S1, e1, hS1⟩ : ∃ S1 e1, saveS fp8 S 0 256 img true = (S1, e1) := ⟨_, _, rfl⟩
  obtain ⟨S2, e2, hS2⟩ : ∃ S2 e2, saveS fp8 S1 0 256 img true = (S2, e2) := ⟨_, _, rfl⟩
  obtain ⟨g1, g2, g3, g4, g5, g6, g7, s, hs, g8⟩ := wiped fp8_length hc h0 (a := 0) (k := 256) (bs := img) (by decide) (by decide) (by omega) (by rw [hm]; exact hm2) hS1 hS2
  have c1 := (save_done (wiped := true) fp8_length hc (a := 0) (k := 256) (bs := img) (by decide) (by decide) (by omega) (by rw [hm]; omega) (by rw [hS1]; exact g1)).1
  rw [hS1] at c1
  have c1 : Calm S1 := c1
  have c2 := (save_done (wiped := true) fp8_length c1 (a := 0) (k := 256) (bs := img) (by decide) (by decide) (by omega) (by rw [g5, hm]; exact Nat.lt_of_lt_of_le (Nat.succ_lt_succ hm2) (by decide)) (by rw [hS2]; exact g2)).1
  have f2 := (save_none (wiped := true) fp8_length g3 g4 (a := 0) (k := 256) (bs := img) (by decide) (by decide) (by omega)).2
  have o2 := (save_cases (wiped := true) fp8_length c1 (a := 0) (k := 256) (bs := img) (by decide) (by decide) (by omega)).1
  rw [hS2] at c2 f2 o2
  have c2 : Calm S2 := c2
  have f2 : S2.fuse = 0 := f2
  have o2 : S2.ops ≤ S1.ops + 256 + 1 := o2
  obtain ⟨k1, k2, k3, k4, k5, k6, k7⟩ := clear_is (dirtyS S2) S2 c2.on f2 c2.opn c2.ok fun i hi => (dirty_mem.1 hi).1.2
  have hlen := dirty_len S2
  obtain ⟨S3, e3, hS3⟩ : ∃ S3 e3, clearS S2 (dirtyS S2) = (S3, e3) := ⟨(clearS S2 (dirtyS S2)).1, (clearS S2 (dirtyS S2)).2, (Prod.eta _).symm⟩
  rw [hS3] at k1 k2 k3 k4 k5 k6 k7
  have k1 : e3 = 0 := k1
  have k2 : S3.dead = false := k2
  have k3 : S3.fuse = 0 := k3
  have k5 : DOk S3 := k5
  have k6 : S3.ops ≤ S2.ops + (dirtyS S2).length := k6
  subst g1 g2 k1
  obtain ⟨h6, h7⟩ := burn_none k3
  have hsy : syncS S3 = ({ (burnS S3).1 with L := (burnS S3).1.L.map safeP }, 0) := by
    unfold syncS
    rw [if_neg (by rw [k2]; decide)]
    dsimp only
    rw [if_neg (by rw [h6]; decide)]
  obtain ⟨T, hT⟩ : ∃ T : DS, T = { (burnS S3).1 with L := (burnS S3).1.L.map safeP } := ⟨_, rfl⟩
  rw [← hT] at hsy
  have tL : T.L = S3.L.map safeP := by
    rw [hT]
    show ((burnS S3).1.L).map safeP = _
    rw [burnS_L]
  have hv : ∀ q, viewS T 0 q = if q ∈ dirtyS S2 then some z128 else viewS S2 0 q := fun q => by rw [view_sync tL]; exact k7 q
  refine ⟨T, ?_, by rw [hS1]; show mostS S1 0 256 + 1 = _; rw [g5, hm], ⟨?_, by rw [tL]; exact shut_safe _, by rw [tL]; exact opn_safe _, dok_of (dok_map k5 (f := safeP) (fun _ => rfl) fun _ hp => hp) tL⟩, ?_, ?_, ⟨s, hs, fun i hi2 => ?_⟩, fun q h1 h2 => ?_⟩
  · unfold scrubS
    rw [hS1]
    dsimp only
    rw [if_pos rfl, hS2]
    dsimp only
    rw [if_pos rfl, hS3]
    dsimp only
    rw [if_pos rfl, hsy]
  · rw [hT]
    show (burnS S3).1.dead = false
    rcases burn_dead S3 k2 with ⟨h3, _⟩ | ⟨_, h4⟩
    · rw [h6] at h3
      cases h3
    · exact h4
  · rw [hT]
    exact h7
  · rw [hT]
    show (burnS S3).1.ops ≤ _
    rw [burnS_ops]
    have o3 := g6
    clear g5 hm hS1 hS2 hS3 hsy hT hv k7 g8
    omega
  · have hg := g8 i hi2
    rw [hm, Nat.zero_add, Nat.zero_add] at hg
    have v1 : ∀ a, viewS S2 a i = viewS S2 0 (a + i) := fun a => by
      have := view_off S2 0 a i
      rwa [Nat.zero_add] at this
    rw [v1, v1] at hg
    have n1 : ∀ q, q < 512 → viewS T 0 q = viewS S2 0 q := fun q hq => by rw [hv, if_neg (fun h => by have := (dirty_mem.1 h).1.1; omega)]
    rw [n1 _ (by omega), n1 _ (by omega)]
    exact hg
  · rw [hv]
    by_cases g : q ∈ dirtyS S2
    · rw [if_pos g]
    · rw [if_neg g]
      exact Classical.byContradiction fun h => g (dirty_mem.2 ⟨⟨h1, h2⟩, h⟩)
end Go.Proofs.YtbodiioemohenaaDoor
