/- The law of whatever is made and freed, walked. -/
import Derived.Test.YtjbjijkkmlehgaaDoorPH
import Derived.Deep.OwnRows
import Derived.Deep.QuietTactic
import Derived.BigQuiet
namespace Go.Proofs.YtjbjijkkmlehgaaDoor
open Go.RowKit
open Hh (WT wordOf okW Hr)
open Mm (IsWords IsMem MS zeroMS)
set_option linter.unusedVariables false

theorem cfg_set4 {w : World} {b : Nat} {s a c d g k : Int} (h : IsCfg w b s a c d g k) (v : Int) : IsCfg (w.setCell ⟨b, 4, none⟩ (.int .i64 v)) b s a c d v k := Hh.heap_setCell_at h _
/-- Whole numbers that came in. -/
def RdI (w : World) (ad : Option Addr) (len : Nat) (Z : Nat → Int) : Prop := ∀ i, i < len → ∃ b off, ad = some ⟨b, off, none⟩ ∧ b < w.heap.size ∧ w.cell? ⟨b, off + i, none⟩ = some (.int .i64 (Z i))
/-- The law's world, when its memory, its row of counts and itself are laid. -/
structure St7 (w w7 : World) (K : Cf) (M G D B : Nat) : Prop where
  mem : MemX w7 M G (memK0 K).X 0
  wt : WT w7
  wd : WdAt w7 K B M D
  cnt : IsMd w7 D (List.replicate K.S 0)
  bel : Below w.heap.size w w7
  cfg : IsCfg w7 w.heap.size K.S K.a K.C K.D K.g K.k
  hi : ∀ b ∈ [M, G, B, D], w.heap.size + 1 ≤ b ∧ b < w7.heap.size
  ne : [M, G, B, D].Nodup
theorem St7.below {w w7 w8 : World} {K : Cf} {M G D B : Nat} (h : St7 w w7 K M G D B) (b : Below w7.heap.size w7 w8) : St7 w w8 K M G D B :=
  ⟨h.mem.below b, h.wt.below b, h.wd.below b, h.cnt.below b, seq_below h.bel b, h.cfg.below b, fun x hx => ⟨(h.hi x hx).1, Nat.lt_of_lt_of_le (h.hi x hx).2 b.size⟩, h.ne⟩
/-- What is there ahead of them. -/
structure St3 (w w3 : World) (K : Cf) : Prop where
  wt : WT w3
  bel : Below w.heap.size w w3
  cfg : IsCfg w3 w.heap.size K.S K.a K.C K.D K.g K.k
theorem St3.below {w w3 w8 : World} {K : Cf} (h : St3 w w3 K) (b : Below w3.heap.size w3 w8) : St3 w w8 K := ⟨h.wt.below b, seq_below h.bel b, h.cfg.below b⟩
/-- The memory first, then the row. -/
theorem st7_a {w w3 w4 : World} {K : Cf} {M G : Nat} (h : St3 w w3 K) (hm : IsMem w4 M G (memK0 K)) (hM : w3.heap.size ≤ M) (hG : w3.heap.size ≤ G) (hb : Below w3.heap.size w3 w4) :
    St7 w ((w4.alloc (.cells (madeCells #[.int .i64 0] K.S) 3)).alloc (.cells #[.int .i64 (K.S : Nat), .int .i64 K.a, .int .i64 (K.C : Nat), .int .i64 (K.D : Nat), .int .i64 K.g, .int .i64 K.k, .pointer (some ⟨M, 0, none⟩), .slice (some ⟨w4.heap.size, 0, none⟩) K.S K.S] 31)) K M G w4.heap.size (w4.alloc (.cells (madeCells #[.int .i64 0] K.S) 3)).heap.size := by
  have b1 := alloc_below w4 (.cells (madeCells #[.int .i64 0] K.S) 3)
  have b2 := alloc_below (w4.alloc (.cells (madeCells #[.int .i64 0] K.S) 3)) (.cells #[.int .i64 (K.S : Nat), .int .i64 K.a, .int .i64 (K.C : Nat), .int .i64 (K.D : Nat), .int .i64 K.g, .int .i64 K.k, .pointer (some ⟨M, 0, none⟩), .slice (some ⟨w4.heap.size, 0, none⟩) K.S K.S] 31)
  have h4 := h.below hb
  have hlt := h.cfg.lt
  have hmx : MemX w4 M G (memK0 K).X 0 := ⟨_, hm, rfl, rfl⟩
  have hml := hmx.lt
  have s1 : (w4.alloc (.cells (madeCells #[.int .i64 0] K.S) 3)).heap.size = w4.heap.size + 1 := by simp
  have hcn : IsMd (w4.alloc (.cells (madeCells #[.int .i64 0] K.S) 3)) w4.heap.size (List.replicate K.S 0) := by
    unfold IsMd
    rw [← md_new]
    exact new_obj w4 _
  have h7 := (h4.below b1).below b2
  refine ⟨(hmx.below b1).below b2, h7.wt, new_obj _ _, hcn.below b2, h7.bel, h7.cfg, fun x hx => ?_, ?_⟩
  · have s2 : ((w4.alloc (.cells (madeCells #[.int .i64 0] K.S) 3)).alloc (.cells #[.int .i64 (K.S : Nat), .int .i64 K.a, .int .i64 (K.C : Nat), .int .i64 (K.D : Nat), .int .i64 K.g, .int .i64 K.k, .pointer (some ⟨M, 0, none⟩), .slice (some ⟨w4.heap.size, 0, none⟩) K.S K.S] 31)).heap.size = w4.heap.size + 2 := by simp
    have := hb.size
    simp only [List.mem_cons, List.not_mem_nil, or_false] at hx
    omega
  · have := hb.size
    simp only [List.nodup_cons, List.mem_cons, List.not_mem_nil, or_false, not_or, List.nodup_nil, and_true, not_false_eq_true]
    omega
/-- The row first, then the memory. -/
theorem st7_b {w w3 w4 : World} {K : Cf} {M G D : Nat} (h : St3 w w3 K) (hD : IsMd w3 D (List.replicate K.S 0)) (hDn : w.heap.size + 1 ≤ D) (hm : IsMem w4 M G (memK0 K)) (hM : w3.heap.size ≤ M) (hG : w3.heap.size ≤ G) (hb : Below w3.heap.size w3 w4) :
    St7 w (w4.alloc (.cells #[.int .i64 (K.S : Nat), .int .i64 K.a, .int .i64 (K.C : Nat), .int .i64 (K.D : Nat), .int .i64 K.g, .int .i64 K.k, .pointer (some ⟨M, 0, none⟩), .slice (some ⟨D, 0, none⟩) K.S K.S] 31)) K M G D w4.heap.size := by
  have b2 := alloc_below w4 (.cells #[.int .i64 (K.S : Nat), .int .i64 K.a, .int .i64 (K.C : Nat), .int .i64 (K.D : Nat), .int .i64 K.g, .int .i64 K.k, .pointer (some ⟨M, 0, none⟩), .slice (some ⟨D, 0, none⟩) K.S K.S] 31)
  have h7 := (h.below hb).below b2
  have hmx : MemX w4 M G (memK0 K).X 0 := ⟨_, hm, rfl, rfl⟩
  have hml := hmx.lt
  have hlt := h.cfg.lt
  have hdl := hD.lt
  refine ⟨hmx.below b2, h7.wt, new_obj _ _, (hD.below hb).below b2, h7.bel, h7.cfg, fun x hx => ?_, ?_⟩
  · have s2 : (w4.alloc (.cells #[.int .i64 (K.S : Nat), .int .i64 K.a, .int .i64 (K.C : Nat), .int .i64 (K.D : Nat), .int .i64 K.g, .int .i64 K.k, .pointer (some ⟨M, 0, none⟩), .slice (some ⟨D, 0, none⟩) K.S K.S] 31)).heap.size = w4.heap.size + 1 := by simp
    have := hb.size
    simp only [List.mem_cons, List.not_mem_nil, or_false] at hx
    omega
  · have := hb.size
    simp only [List.nodup_cons, List.mem_cons, List.not_mem_nil, or_false, not_or, List.nodup_nil, and_true, not_false_eq_true]
    omega
/-- All makers, behind so many picks. -/
def Wp (w wr : World) (K : Cf) (n M G B D L p : Nat) : Prop := ∃ X T tag F md cur R A, tag ≤ p ∧ (0 ≤ T ∧ T ≤ (p : Int)) ∧ Ws w wr K n M G B D L X T tag F md cur R A
theorem Wp.below {w wr w1 : World} {K : Cf} {n M G B D L p : Nat} (h : Wp w wr K n M G B D L p) (b : Below wr.heap.size wr w1) : Wp w w1 K n M G B D L p := by
  obtain ⟨X, T, tag, F, md, cur, R, A, h1, h2, ws⟩ := h
  exact ⟨X, T, tag, F, md, cur, R, A, h1, h2, ws.below b⟩
theorem Wp.drew {w wr : World} {K : Cf} {n M G B D L p : Nat} (h : Wp w wr K n M G B D L p) : Wp w wr.drew K n M G B D L p := h.below (Below.refl _ _).drew
theorem Wp.more {w wr : World} {K : Cf} {n M G B D L p : Nat} (h : Wp w wr K n M G B D L p) : Wp w wr K n M G B D L (p + 1) := by
  obtain ⟨X, T, tag, F, md, cur, R, A, h1, h2, ws⟩ := h
  exact ⟨X, T, tag, F, md, cur, R, A, by omega, by omega, ws⟩
theorem Wp.bel {w wr : World} {K : Cf} {n M G B D L p : Nat} (h : Wp w wr K n M G B D L p) : Below w.heap.size w wr := by
  obtain ⟨X, T, tag, F, md, cur, R, A, h1, h2, ws⟩ := h
  exact ws.bel
theorem Wp.give {w wr : World} {K : Cf} {n M G B D L p : Nat} (h : Wp w wr K n M G B D L p) {i : Nat} (hi : i < n) {za : Option Addr} {zk : List Wo} {zc : Nat} (hk : Wk w w.heap.size za zk) (hc : zk.length ≤ zc ∧ zc < 9223372036854775808) :
    (∃ v, wr.cell? ⟨L, i * 10, none⟩ = some v) ∧ wr.frozen? ⟨L, i * 10, none⟩ = false ∧ Wp w (wr.setCell ⟨L, i * 10, none⟩ (.slice za zk.length zc)) K n M G B D L p := by
  obtain ⟨X, T, tag, F, md, cur, R, A, h1, h2, ws⟩ := h
  obtain ⟨a1, a2, cur', A', a3⟩ := ws.give hi hk hc
  exact ⟨a1, a2, X, T, tag, F, md, cur', R, A', h1, h2, a3⟩
theorem Wp.turn {w wr : World} {K : Cf} (hK : K.Ok) (hg : K.g ≤ 4) {n M G B D L p : Nat} (h : Wp w wr K n M G B D L p) (hp : p ≤ 500) {i : Nat} (hi : i < n) :
    Calls Tryd.prog 11 #[.pointer (some ⟨L, i * 10, none⟩), .pointer (some ⟨B, 0, none⟩)] wr fun r w' => r = .returned (.bool true) ∧ Wp w w' K n M G B D L (p + 1) := by
  obtain ⟨X, T, tag, F, md, cur, R, A, h1, h2, ws⟩ := h
  refine (ws.turn hK (by omega) hi (by omega) (by omega)).mono fun r w' ⟨a1, X', T', tag', F', md', cur', R', A', a2, a3, a4⟩ => ⟨a1, X', T', tag', F', md', cur', R', A', by omega, by omega, a4⟩
theorem Wp.two {w wr : World} {K : Cf} (hK : K.Ok) {n M G B D L p : Nat} (h : Wp w wr K n M G B D L p) {a b : Nat} (ha : a < n) (hb : b < a) :
    ∃ hva hvb, wr.cell? ⟨L, a * 10 + 6, none⟩ = some hva ∧ wr.cell? ⟨L, b * 10 + 6, none⟩ = some hvb ∧ Calls Tryd.prog 12 #[hva, hvb] wr fun e w' => e = .returned (.bool false) ∧ wr = w' := by
  obtain ⟨X, T, tag, F, md, cur, R, A, h1, h2, ws⟩ := h
  exact ⟨_, _, (ws.had hK ha).1, (ws.had hK (i := b) (by omega)).1, ws.meet hK ha hb⟩
theorem rlist_Y {w : World} {K : Cf} (hK : K.Ok) {R : Nat} {X : List Nat} {tag : Nat} {F : List Nat} (hw : IsWords w R X) (tp : Top K X tag F) (hX : ∀ i, X.getD i 0 < 18446744073709551616) :
    Calls Tryd.prog 14 #[.agg K.cs, .slice (some ⟨R, 0, none⟩) K.N K.N] w fun e w' => ∃ v, e = .returned v ∧ IsI w' v F ∧ (∀ g, v.ownBlock = some g → w.heap.size ≤ g) ∧ Below w.heap.size w w' := by
  have c := rlist_yes hK (cap := K.N) (RdW.of_words hw) tp.len hX
  rw [tp.list] at c
  exact c
set_option maxRecDepth 100000 in
set_option maxHeartbeats 40000000 in
theorem plays_long (s a c d g k : Int) (wad : Option Addr) (nz wcap : Nat) (pad : Option Addr) (np pcap : Nat) (Y : Nat → Int) (w : World) (hw : WT w) (hC : RowsW w wad nz) (hY : RdI w pad np Y) (hp : np ≤ maxLen) (hz : 6 < nz) :
    Calls Tryd.prog 3 #[.agg (cs s a c d g k), .slice wad nz wcap, .slice pad np pcap] w fun e w' => e = .returned (.bool true) ∧ Below w.heap.size w w' := by
  have cf := Fit_any s a c d g k
  have bel := alloc_below w (.cells #[.int .i64 s, .int .i64 a, .int .i64 c, .int .i64 d, .int .i64 g, .int .i64 k] 23)
  have hh := cfg_new w s a c d g k
  have hW0 := hw.lt
  replace hw := hw.below bel
  have HC0 := hide hC
  have HY0 := hide hY
  have HP0 := hide hp
  clear hC hY hp
  go_enter Tryd.func3, Tryd.ntmps3
  go_upto_region 1 with fail
  generalize w.alloc (.cells #[.int .i64 s, .int .i64 a, .int .i64 c, .int .i64 d, .int .i64 g, .int .i64 k] 23) = w1 at *
  obtain ⟨l0, l1, l2, l3, l4, l5⟩ := hh.cells
  go_upto_region 2 with (first
    | (go_at_call 8; refine (cf _).mono ?_; rintro e w2 ⟨⟨s', a', c', d', g', k', rfl, hs, ha, hc, hd, hg, hk⟩, b⟩; replace bel := seq_below bel b; replace hh := hh.below b; replace hw := hw.below b; obtain ⟨l0, l1, l2, l3, l4, l5⟩ := hh.cells; have y0 := hh.free 0; have y1 := hh.free 1; have y2 := hh.free 2; have y3 := hh.free 3; have y4 := hh.free 4; have y5 := hh.free 5))
  have h3 := cfg_stored6 hh s' a' c' d' g' k'
  have bel3 := below_stored6 bel (Nat.le_refl w.heap.size) (.int .i64 s') (.int .i64 a') (.int .i64 c') (.int .i64 d') (.int .i64 g') (.int .i64 k')
  have hw0 : 0 < w.heap.size := hW0
  have hw3 := ((((((hw.set (o := 0) hw0 (.int .i64 s')).set (o := 1) hw0 (.int .i64 a')).set (o := 2) hw0 (.int .i64 c')).set (o := 3) hw0 (.int .i64 d')).set (o := 4) hw0 (.int .i64 g')).set (o := 5) hw0 (.int .i64 k'))
  clear l0 l1 l2 l3 l4 l5 y0 y1 y2 y3 y4 y5 hh bel cf hw
  generalize ((((((w2.setCell ⟨w.heap.size, 0, none⟩ (.int .i64 s')).setCell ⟨w.heap.size, 1, none⟩ (.int .i64 a')).setCell ⟨w.heap.size, 2, none⟩ (.int .i64 c')).setCell ⟨w.heap.size, 3, none⟩ (.int .i64 d')).setCell ⟨w.heap.size, 4, none⟩ (.int .i64 g')).setCell ⟨w.heap.size, 5, none⟩ (.int .i64 k')) = w3 at *
  obtain ⟨r4, hr4, hr40, hr43⟩ : ∃ r, g'.tmod 4 = r ∧ 0 ≤ r ∧ r ≤ 3 := ⟨g' % 4, Int.tmod_eq_emod_of_nonneg (by omega), by omega, by omega⟩
  have hw4 : IntKind.i64.wrap (1 + r4) = 1 + r4 := by rw [IntKind.wrap_i64]; omega
  have l4 := h3.cells.2.2.2.2.1
  have y4 := h3.free 4
  go_upto_region 3 with fail
  clear l4 y4 hw4 hr4
  have h4 := cfg_set4 h3 (1 + r4)
  have bel4 := bel3.setCell (p := ⟨w.heap.size, 4, none⟩) (Nat.le_refl _) (.int .i64 (1 + r4))
  have hw4 := hw3.set (o := 4) hw0 (.int .i64 (1 + r4))
  clear h3 bel3 hw3
  generalize w3.setCell ⟨w.heap.size, 4, none⟩ (.int .i64 (1 + r4)) = w4 at *
  obtain ⟨g4, hg4⟩ : ∃ g4, 1 + r4 = g4 := ⟨_, rfl⟩
  rw [hg4] at h4
  have hg41 : 1 ≤ g4 ∧ g4 ≤ 4 := by omega
  have hr : rightB s' a' c' d' g4 k' = true := rightB_iff.2 (by omega)
  have hs12 := hs.2
  clear hc hd hg hk ha hg4 hr40 hr43 hs
  obtain ⟨K, hK, rfl, rfl, rfl, rfl, rfl, rfl⟩ := Cf.of_right hr
  have c9 := memory_yes hK.r hK.b hK.b8 hK.c8 hK.d16 hK.s64 hK.s1 hK.d1
  rw [show zeroMS (memX K.C K.D K.B (nW K.C K.D K.B K.S) (K.S - 1)) = memK0 K from rfl] at c9
  have C9 := hide c9
  have ST3 := hide (St3.mk hw4 bel4 h4)
  have hS12 : K.S ≤ 12 := by omega
  have HK := hide (And.intro hK (And.intro hg41.1 (And.intro hg41.2 hS12)))
  have hmk : ∀ wr, (Instr.makeSlice 25 (.int .i64 (K.S : Nat)) (.int .i64 (K.S : Nat))).run Tryd.prog wr = .ok (.slice (some ⟨wr.heap.size, 0, none⟩) K.S K.S) (wr.alloc (.cells (madeCells #[.int .i64 0] K.S) 3)) := fun wr => run_make_row' 25 3 (.int .i64 0) 8 Tryd.underlying25 Tryd.info3 rfl .i64 .i64 K.S (by omega) (by omega) wr
  have HMK := hide hmk
  clear hmk c9 hw4 bel4 h4 hr hs12 hg41 hw0 hW0 hK hS12
  have HC : Hid (∀ wr, Below w4.heap.size w4 wr → wr.cell? ⟨w.heap.size, 0, none⟩ = some (.int .i64 (K.S : Nat)) ∧ wr.cell? ⟨w.heap.size, 1, none⟩ = some (.int .i64 K.a) ∧ wr.cell? ⟨w.heap.size, 2, none⟩ = some (.int .i64 (K.C : Nat)) ∧ wr.cell? ⟨w.heap.size, 3, none⟩ = some (.int .i64 (K.D : Nat)) ∧ wr.cell? ⟨w.heap.size, 4, none⟩ = some (.int .i64 K.g) ∧ wr.cell? ⟨w.heap.size, 5, none⟩ = some (.int .i64 K.k)) := fun wr b => (ST3.out.below b).cfg.cells
  have bl : Below w4.heap.size w4 w4.drew := (Below.refl _ _).drew
  have hS0 := HC.out _ bl
  refine wp_region_held_drew (S := fun wr => wr.cell? ⟨w.heap.size, 0, none⟩ = some (.int .i64 (K.S : Nat)) ∧ wr.cell? ⟨w.heap.size, 1, none⟩ = some (.int .i64 K.a) ∧ wr.cell? ⟨w.heap.size, 2, none⟩ = some (.int .i64 (K.C : Nat)) ∧ wr.cell? ⟨w.heap.size, 3, none⟩ = some (.int .i64 (K.D : Nat)) ∧ wr.cell? ⟨w.heap.size, 4, none⟩ = some (.int .i64 K.g) ∧ wr.cell? ⟨w.heap.size, 5, none⟩ = some (.int .i64 K.k)) (by kernel_rfl) hS0 (fun hS1 => ?_)
  clear hS0
  refine wpAnyH_take (i := 0) (oi := { dst := some 28, op := Go.Op.load 23 (Go.Operand.tmp 3), type := 23, pos := "law.go:148", after := #[], guard := none }) (v := .agg #[.int .i64 (K.S : Nat), .int .i64 K.a, .int .i64 (K.C : Nat), .int .i64 (K.D : Nat), .int .i64 K.g, .int .i64 K.k]) rfl (by kernel_rfl) (by kernel_rfl) (by kernel_rfl) (fun _ _ _ h => h) (Or.inl ⟨by rfl, fun w hSw => by (try dsimp only at hSw); go_simp⟩) hS1 ?_
  simp only [Act.put, List.setIfInBounds_toArray, List.set_cons_zero, List.set_cons_succ]
  refine wpAnyH_take (i := 1) (oi := { dst := some 29, op := Go.Op.load 23 (Go.Operand.tmp 3), type := 23, pos := "law.go:148", after := #[], guard := none }) (v := .agg #[.int .i64 (K.S : Nat), .int .i64 K.a, .int .i64 (K.C : Nat), .int .i64 (K.D : Nat), .int .i64 K.g, .int .i64 K.k]) rfl (by kernel_rfl) (by kernel_rfl) (by kernel_rfl) (fun _ _ _ h => h) (Or.inl ⟨by rfl, fun w hSw => by (try dsimp only at hSw); go_simp⟩) hS1 ?_
  simp only [Act.put, List.setIfInBounds_toArray, List.set_cons_zero, List.set_cons_succ]
  refine wpAnyH_take (i := 3) (oi := { dst := some 31, op := Go.Op.fieldAddr 23 (Go.Operand.tmp 3) 0, type := 0, pos := "law.go:148", after := #[], guard := none }) (v := .pointer (some ⟨w.heap.size, 0, none⟩)) rfl (by kernel_rfl) (by kernel_rfl) (by kernel_rfl) (fun _ _ _ h => h) (Or.inl ⟨by rfl, fun w hSw => by (try dsimp only at hSw); go_simp⟩) hS1 ?_
  simp only [Act.put, List.setIfInBounds_toArray, List.set_cons_zero, List.set_cons_succ]
  refine wpAnyH_take (i := 4) (oi := { dst := some 32, op := Go.Op.load 3 (Go.Operand.tmp 31), type := 3, pos := "law.go:148", after := #[{ on := 3, ground := Go.Ground.data }], guard := none }) (v := .int .i64 (K.S : Nat)) rfl (by kernel_rfl) (by kernel_rfl) (by kernel_rfl) (fun _ _ _ h => h) (Or.inl ⟨by rfl, fun w hSw => by (try dsimp only at hSw); go_simp⟩) hS1 ?_
  simp only [Act.put, List.setIfInBounds_toArray, List.set_cons_zero, List.set_cons_succ]
  refine wpAnyH_ready (rs := [2, 5]) (by kernel_rfl) (by simp) (AllReadyH.cons (o := { dst := some 30, op := Go.Op.call { callee := Go.Callee.value (Go.Operand.func 9), args := #[Go.Operand.tmp 29], argTypes := #[23] }, type := 28, pos := "law.go:148", after := #[{ on := 1, ground := Go.Ground.data }], guard := none }) rfl (fun KK hKK => ?_) (AllReadyH.cons (o := { dst := some 33, op := Go.Op.makeSlice 25 (Go.Operand.tmp 32) (Go.Operand.tmp 32), type := 25, pos := "law.go:148", after := #[{ on := 4, ground := Go.Ground.data }, { on := 4, ground := Go.Ground.data }], guard := none }) rfl (fun KK hKK => ?_) AllReadyH.nil))
  · go_simp
    go_at_call 9
    with_reducible refine (C9.out _).mono ?_
    rintro e w5 ⟨M, G, rfl, hm, hM, hG, b⟩
    (try simp only [])
    have st := hide (st7_a (ST3.out.below bl) hm hM hG b)
    replace bl := seq_below bl b
    rw [show (w5.alloc (.cells (madeCells #[.int .i64 0] K.S) 3)).heap.size = w5.heap.size + 1 by simp] at st
    clear hm hM hG b
    refine hKK.out _ _ (HC.out _ bl) (fun hS1 => ?_)
    (try simp only [Act.put, List.setIfInBounds_toArray, List.set_cons_zero, List.set_cons_succ])
    clear hKK KK
    refine wpAnyH_ready (rs := [5]) (by kernel_rfl) (by simp) (AllReadyH.cons (o := { dst := some 33, op := Go.Op.makeSlice 25 (Go.Operand.tmp 32) (Go.Operand.tmp 32), type := 25, pos := "law.go:148", after := #[{ on := 4, ground := Go.Ground.data }, { on := 4, ground := Go.Ground.data }], guard := none }) rfl (fun KK hKK => ?_) AllReadyH.nil)
    have hmk := HMK.out
    go_simp
    clear hmk
    have bl2 := seq_below bl (alloc_below w5 (.cells (madeCells #[.int .i64 0] K.S) 3))
    have bl3 := seq_below bl2 (alloc_below _ (.cells #[.int .i64 (K.S : Nat), .int .i64 K.a, .int .i64 (K.C : Nat), .int .i64 (K.D : Nat), .int .i64 K.g, .int .i64 K.k, .pointer (some ⟨M, 0, none⟩), .slice (some ⟨w5.heap.size, 0, none⟩) K.S K.S] 31))
    refine hKK.out _ _ (HC.out _ bl2) (fun hS1 => ?_)
    (try simp only [Act.put, List.setIfInBounds_toArray, List.set_cons_zero, List.set_cons_succ])
    clear hKK KK bl
    refine wpAnyH_ready (rs := [6]) (by kernel_rfl) (by simp) (AllReadyH.cons (o := { dst := some 34, op := Go.Op.build 31 #[(0, Go.Operand.tmp 28), (1, Go.Operand.tmp 30), (2, Go.Operand.tmp 33)], type := 31, pos := "law.go:148", after := #[{ on := 0, ground := Go.Ground.data }, { on := 2, ground := Go.Ground.data }, { on := 5, ground := Go.Ground.data }], guard := none }) rfl (fun KK hKK => ?_) AllReadyH.nil)
    go_simp
    refine hKK.out _ _ (HC.out _ bl2) (fun hS1 => ?_)
    (try simp only [Act.put, List.setIfInBounds_toArray, List.set_cons_zero, List.set_cons_succ])
    clear hKK KK
    refine wpAnyH_ready (rs := [7]) (by kernel_rfl) (by simp) (AllReadyH.cons (o := { dst := some 35, op := Go.Op.box 31 (Go.Operand.tmp 34), type := 27, pos := "law.go:148", after := #[{ on := 6, ground := Go.Ground.data }], guard := none }) rfl (fun KK hKK => ?_) AllReadyH.nil)
    go_simp
    refine hKK.out _ _ (HC.out _ bl3) (fun hS1 => ?_)
    (try simp only [Act.put, List.setIfInBounds_toArray, List.set_cons_zero, List.set_cons_succ])
    clear hKK KK
    generalize w5.heap.size + 1 = B at *
    generalize w5.heap.size = D at *
    generalize (w5.alloc (.cells (madeCells #[.int .i64 0] K.S) 3)).alloc (.cells #[.int .i64 (K.S : Nat), .int .i64 K.a, .int .i64 (K.C : Nat), .int .i64 (K.D : Nat), .int .i64 K.g, .int .i64 K.k, .pointer (some ⟨M, 0, none⟩), .slice (some ⟨D, 0, none⟩) K.S K.S] 31) = w7 at *
    refine wpAnyH_take (i := 8) (oi := { dst := some 7, op := Go.Op.assign (Go.Operand.tmp 35), type := 27, pos := "law.go:148", after := #[{ on := 7, ground := Go.Ground.data }, { on := 2, ground := Go.Ground.chain }, { on := 0, ground := Go.Ground.phase }, { on := 1, ground := Go.Ground.phase }, { on := 2, ground := Go.Ground.phase }, { on := 3, ground := Go.Ground.phase }, { on := 4, ground := Go.Ground.phase }, { on := 5, ground := Go.Ground.phase }, { on := 6, ground := Go.Ground.phase }, { on := 7, ground := Go.Ground.phase }], guard := none }) (v := .pointer (some ⟨B, 0, none⟩)) rfl (by kernel_rfl) (by kernel_rfl) (by kernel_rfl) (fun _ _ _ h => h) (Or.inl ⟨by rfl, fun w hSw => by (try dsimp only at hSw); go_simp⟩) hS1 ?_
    simp only [Act.put, List.setIfInBounds_toArray, List.set_cons_zero, List.set_cons_succ]
    refine wpAnyH_done (by kernel_rfl) ?_ _
    clear hS1 HC HMK C9 ST3
    have hz' : (6 : Int) < (nz : Int) := by omega
    have c10 := hide (awake_any _ st.out.wt)
    clear bl3
    go_wp2_with (go_at_call 10; refine Calls.mono c10.out ?_; rintro e w8 ⟨rfl, hb⟩)
    go_ret
    exact ⟨rfl, seq_below st.out.bel hb⟩
  · have hmk := HMK.out
    go_simp
    clear hmk
    have hDm : IsMd (w4.alloc (.cells (madeCells #[.int .i64 0] K.S) 3)).drew w4.heap.size (List.replicate K.S 0) := by
      unfold IsMd
      rw [← md_new]
      exact new_obj w4 _
    have hDl := ST3.out.cfg.lt
    have bl2 : Below w4.heap.size w4 (w4.alloc (.cells (madeCells #[.int .i64 0] K.S) 3)).drew := (alloc_below w4 (.cells (madeCells #[.int .i64 0] K.S) 3)).drew
    refine hKK.out _ _ (HC.out _ bl2) (fun hS1 => ?_)
    (try simp only [Act.put, List.setIfInBounds_toArray, List.set_cons_zero, List.set_cons_succ])
    clear hKK KK bl
    generalize hDe : w4.heap.size = D at hDm hDl ⊢
    generalize (w4.alloc (.cells (madeCells #[.int .i64 0] K.S) 3)).drew = w5 at *
    refine wpAnyH_ready (rs := [2]) (by kernel_rfl) (by simp) (AllReadyH.cons (o := { dst := some 30, op := Go.Op.call { callee := Go.Callee.value (Go.Operand.func 9), args := #[Go.Operand.tmp 29], argTypes := #[23] }, type := 28, pos := "law.go:148", after := #[{ on := 1, ground := Go.Ground.data }], guard := none }) rfl (fun KK hKK => ?_) AllReadyH.nil)
    go_simp
    go_at_call 9
    with_reducible refine (C9.out _).mono ?_
    rintro e w6 ⟨M, G, rfl, hm, hM, hG, b⟩
    (try simp only [])
    have st := hide (st7_b (ST3.out.below bl2) hDm (by omega) hm hM hG b)
    have bl := seq_below bl2 b
    clear hm hM hG b bl2 hDm hDl hDe
    refine hKK.out _ _ (HC.out _ bl) (fun hS1 => ?_)
    (try simp only [Act.put, List.setIfInBounds_toArray, List.set_cons_zero, List.set_cons_succ])
    clear hKK KK
    have bl3 := seq_below bl (alloc_below w6 (.cells #[.int .i64 (K.S : Nat), .int .i64 K.a, .int .i64 (K.C : Nat), .int .i64 (K.D : Nat), .int .i64 K.g, .int .i64 K.k, .pointer (some ⟨M, 0, none⟩), .slice (some ⟨D, 0, none⟩) K.S K.S] 31))
    refine wpAnyH_ready (rs := [6]) (by kernel_rfl) (by simp) (AllReadyH.cons (o := { dst := some 34, op := Go.Op.build 31 #[(0, Go.Operand.tmp 28), (1, Go.Operand.tmp 30), (2, Go.Operand.tmp 33)], type := 31, pos := "law.go:148", after := #[{ on := 0, ground := Go.Ground.data }, { on := 2, ground := Go.Ground.data }, { on := 5, ground := Go.Ground.data }], guard := none }) rfl (fun KK hKK => ?_) AllReadyH.nil)
    go_simp
    refine hKK.out _ _ (HC.out _ bl) (fun hS1 => ?_)
    (try simp only [Act.put, List.setIfInBounds_toArray, List.set_cons_zero, List.set_cons_succ])
    clear hKK KK
    refine wpAnyH_ready (rs := [7]) (by kernel_rfl) (by simp) (AllReadyH.cons (o := { dst := some 35, op := Go.Op.box 31 (Go.Operand.tmp 34), type := 27, pos := "law.go:148", after := #[{ on := 6, ground := Go.Ground.data }], guard := none }) rfl (fun KK hKK => ?_) AllReadyH.nil)
    go_simp
    refine hKK.out _ _ (HC.out _ bl3) (fun hS1 => ?_)
    (try simp only [Act.put, List.setIfInBounds_toArray, List.set_cons_zero, List.set_cons_succ])
    clear hKK KK
    generalize w6.heap.size = B at *
    generalize w6.alloc (.cells #[.int .i64 (K.S : Nat), .int .i64 K.a, .int .i64 (K.C : Nat), .int .i64 (K.D : Nat), .int .i64 K.g, .int .i64 K.k, .pointer (some ⟨M, 0, none⟩), .slice (some ⟨D, 0, none⟩) K.S K.S] 31) = w7 at *
    refine wpAnyH_take (i := 8) (oi := { dst := some 7, op := Go.Op.assign (Go.Operand.tmp 35), type := 27, pos := "law.go:148", after := #[{ on := 7, ground := Go.Ground.data }, { on := 2, ground := Go.Ground.chain }, { on := 0, ground := Go.Ground.phase }, { on := 1, ground := Go.Ground.phase }, { on := 2, ground := Go.Ground.phase }, { on := 3, ground := Go.Ground.phase }, { on := 4, ground := Go.Ground.phase }, { on := 5, ground := Go.Ground.phase }, { on := 6, ground := Go.Ground.phase }, { on := 7, ground := Go.Ground.phase }], guard := none }) (v := .pointer (some ⟨B, 0, none⟩)) rfl (by kernel_rfl) (by kernel_rfl) (by kernel_rfl) (fun _ _ _ h => h) (Or.inl ⟨by rfl, fun w hSw => by (try dsimp only at hSw); go_simp⟩) hS1 ?_
    simp only [Act.put, List.setIfInBounds_toArray, List.set_cons_zero, List.set_cons_succ]
    refine wpAnyH_done (by kernel_rfl) ?_ _
    clear hS1 HC bl HMK C9 ST3
    have hz' : (6 : Int) < (nz : Int) := by omega
    have c10 := hide (awake_any _ st.out.wt)
    clear bl3
    go_wp2_with (go_at_call 10; refine Calls.mono c10.out ?_; rintro e w8 ⟨rfl, hb⟩)
    go_ret
    exact ⟨rfl, seq_below st.out.bel hb⟩
set_option maxRecDepth 100000 in
set_option maxHeartbeats 40000000 in
theorem plays_short (s a c d g k : Int) (wad : Option Addr) (nz wcap : Nat) (pad : Option Addr) (np pcap : Nat) (Y : Nat → Int) (w : World) (hw : WT w) (hC : RowsW w wad nz) (hY : RdI w pad np Y) (hp : np ≤ maxLen) (hz : nz ≤ 6) :
    Calls Tryd.prog 3 #[.agg (cs s a c d g k), .slice wad nz wcap, .slice pad np pcap] w fun e w' => e = .returned (.bool true) ∧ Below w.heap.size w w' := by
  have cf := Fit_any s a c d g k
  have bel := alloc_below w (.cells #[.int .i64 s, .int .i64 a, .int .i64 c, .int .i64 d, .int .i64 g, .int .i64 k] 23)
  have hh := cfg_new w s a c d g k
  have hW0 := hw.lt
  replace hw := hw.below bel
  have HC0 := hide hC
  have HY0 := hide hY
  have HP0 := hide hp
  clear hC hY hp
  go_enter Tryd.func3, Tryd.ntmps3
  go_upto_region 1 with fail
  generalize w.alloc (.cells #[.int .i64 s, .int .i64 a, .int .i64 c, .int .i64 d, .int .i64 g, .int .i64 k] 23) = w1 at *
  obtain ⟨l0, l1, l2, l3, l4, l5⟩ := hh.cells
  go_upto_region 2 with (first
    | (go_at_call 8; refine (cf _).mono ?_; rintro e w2 ⟨⟨s', a', c', d', g', k', rfl, hs, ha, hc, hd, hg, hk⟩, b⟩; replace bel := seq_below bel b; replace hh := hh.below b; replace hw := hw.below b; obtain ⟨l0, l1, l2, l3, l4, l5⟩ := hh.cells; have y0 := hh.free 0; have y1 := hh.free 1; have y2 := hh.free 2; have y3 := hh.free 3; have y4 := hh.free 4; have y5 := hh.free 5))
  have h3 := cfg_stored6 hh s' a' c' d' g' k'
  have bel3 := below_stored6 bel (Nat.le_refl w.heap.size) (.int .i64 s') (.int .i64 a') (.int .i64 c') (.int .i64 d') (.int .i64 g') (.int .i64 k')
  have hw0 : 0 < w.heap.size := hW0
  have hw3 := ((((((hw.set (o := 0) hw0 (.int .i64 s')).set (o := 1) hw0 (.int .i64 a')).set (o := 2) hw0 (.int .i64 c')).set (o := 3) hw0 (.int .i64 d')).set (o := 4) hw0 (.int .i64 g')).set (o := 5) hw0 (.int .i64 k'))
  clear l0 l1 l2 l3 l4 l5 y0 y1 y2 y3 y4 y5 hh bel cf hw
  generalize ((((((w2.setCell ⟨w.heap.size, 0, none⟩ (.int .i64 s')).setCell ⟨w.heap.size, 1, none⟩ (.int .i64 a')).setCell ⟨w.heap.size, 2, none⟩ (.int .i64 c')).setCell ⟨w.heap.size, 3, none⟩ (.int .i64 d')).setCell ⟨w.heap.size, 4, none⟩ (.int .i64 g')).setCell ⟨w.heap.size, 5, none⟩ (.int .i64 k')) = w3 at *
  obtain ⟨r4, hr4, hr40, hr43⟩ : ∃ r, g'.tmod 4 = r ∧ 0 ≤ r ∧ r ≤ 3 := ⟨g' % 4, Int.tmod_eq_emod_of_nonneg (by omega), by omega, by omega⟩
  have hw4 : IntKind.i64.wrap (1 + r4) = 1 + r4 := by rw [IntKind.wrap_i64]; omega
  have l4 := h3.cells.2.2.2.2.1
  have y4 := h3.free 4
  go_upto_region 3 with fail
  clear l4 y4 hw4 hr4
  have h4 := cfg_set4 h3 (1 + r4)
  have bel4 := bel3.setCell (p := ⟨w.heap.size, 4, none⟩) (Nat.le_refl _) (.int .i64 (1 + r4))
  have hw4 := hw3.set (o := 4) hw0 (.int .i64 (1 + r4))
  clear h3 bel3 hw3
  generalize w3.setCell ⟨w.heap.size, 4, none⟩ (.int .i64 (1 + r4)) = w4 at *
  obtain ⟨g4, hg4⟩ : ∃ g4, 1 + r4 = g4 := ⟨_, rfl⟩
  rw [hg4] at h4
  have hg41 : 1 ≤ g4 ∧ g4 ≤ 4 := by omega
  have hr : rightB s' a' c' d' g4 k' = true := rightB_iff.2 (by omega)
  have hs12 := hs.2
  clear hc hd hg hk ha hg4 hr40 hr43 hs
  obtain ⟨K, hK, rfl, rfl, rfl, rfl, rfl, rfl⟩ := Cf.of_right hr
  have c9 := memory_yes hK.r hK.b hK.b8 hK.c8 hK.d16 hK.s64 hK.s1 hK.d1
  rw [show zeroMS (memX K.C K.D K.B (nW K.C K.D K.B K.S) (K.S - 1)) = memK0 K from rfl] at c9
  have C9 := hide c9
  have ST3 := hide (St3.mk hw4 bel4 h4)
  have hS12 : K.S ≤ 12 := by omega
  have HK := hide (And.intro hK (And.intro hg41.1 (And.intro hg41.2 hS12)))
  have hmk : ∀ wr, (Instr.makeSlice 25 (.int .i64 (K.S : Nat)) (.int .i64 (K.S : Nat))).run Tryd.prog wr = .ok (.slice (some ⟨wr.heap.size, 0, none⟩) K.S K.S) (wr.alloc (.cells (madeCells #[.int .i64 0] K.S) 3)) := fun wr => run_make_row' 25 3 (.int .i64 0) 8 Tryd.underlying25 Tryd.info3 rfl .i64 .i64 K.S (by omega) (by omega) wr
  have HMK := hide hmk
  clear hmk c9 hw4 bel4 h4 hr hs12 hg41 hw0 hW0 hK hS12
  have HC : Hid (∀ wr, Below w4.heap.size w4 wr → wr.cell? ⟨w.heap.size, 0, none⟩ = some (.int .i64 (K.S : Nat)) ∧ wr.cell? ⟨w.heap.size, 1, none⟩ = some (.int .i64 K.a) ∧ wr.cell? ⟨w.heap.size, 2, none⟩ = some (.int .i64 (K.C : Nat)) ∧ wr.cell? ⟨w.heap.size, 3, none⟩ = some (.int .i64 (K.D : Nat)) ∧ wr.cell? ⟨w.heap.size, 4, none⟩ = some (.int .i64 K.g) ∧ wr.cell? ⟨w.heap.size, 5, none⟩ = some (.int .i64 K.k)) := fun wr b => (ST3.out.below b).cfg.cells
  have bl : Below w4.heap.size w4 w4.drew := (Below.refl _ _).drew
  have hS0 := HC.out _ bl
  refine wp_region_held_drew (S := fun wr => wr.cell? ⟨w.heap.size, 0, none⟩ = some (.int .i64 (K.S : Nat)) ∧ wr.cell? ⟨w.heap.size, 1, none⟩ = some (.int .i64 K.a) ∧ wr.cell? ⟨w.heap.size, 2, none⟩ = some (.int .i64 (K.C : Nat)) ∧ wr.cell? ⟨w.heap.size, 3, none⟩ = some (.int .i64 (K.D : Nat)) ∧ wr.cell? ⟨w.heap.size, 4, none⟩ = some (.int .i64 K.g) ∧ wr.cell? ⟨w.heap.size, 5, none⟩ = some (.int .i64 K.k)) (by kernel_rfl) hS0 (fun hS1 => ?_)
  clear hS0
  refine wpAnyH_take (i := 0) (oi := { dst := some 28, op := Go.Op.load 23 (Go.Operand.tmp 3), type := 23, pos := "law.go:148", after := #[], guard := none }) (v := .agg #[.int .i64 (K.S : Nat), .int .i64 K.a, .int .i64 (K.C : Nat), .int .i64 (K.D : Nat), .int .i64 K.g, .int .i64 K.k]) rfl (by kernel_rfl) (by kernel_rfl) (by kernel_rfl) (fun _ _ _ h => h) (Or.inl ⟨by rfl, fun w hSw => by (try dsimp only at hSw); go_simp⟩) hS1 ?_
  simp only [Act.put, List.setIfInBounds_toArray, List.set_cons_zero, List.set_cons_succ]
  refine wpAnyH_take (i := 1) (oi := { dst := some 29, op := Go.Op.load 23 (Go.Operand.tmp 3), type := 23, pos := "law.go:148", after := #[], guard := none }) (v := .agg #[.int .i64 (K.S : Nat), .int .i64 K.a, .int .i64 (K.C : Nat), .int .i64 (K.D : Nat), .int .i64 K.g, .int .i64 K.k]) rfl (by kernel_rfl) (by kernel_rfl) (by kernel_rfl) (fun _ _ _ h => h) (Or.inl ⟨by rfl, fun w hSw => by (try dsimp only at hSw); go_simp⟩) hS1 ?_
  simp only [Act.put, List.setIfInBounds_toArray, List.set_cons_zero, List.set_cons_succ]
  refine wpAnyH_take (i := 3) (oi := { dst := some 31, op := Go.Op.fieldAddr 23 (Go.Operand.tmp 3) 0, type := 0, pos := "law.go:148", after := #[], guard := none }) (v := .pointer (some ⟨w.heap.size, 0, none⟩)) rfl (by kernel_rfl) (by kernel_rfl) (by kernel_rfl) (fun _ _ _ h => h) (Or.inl ⟨by rfl, fun w hSw => by (try dsimp only at hSw); go_simp⟩) hS1 ?_
  simp only [Act.put, List.setIfInBounds_toArray, List.set_cons_zero, List.set_cons_succ]
  refine wpAnyH_take (i := 4) (oi := { dst := some 32, op := Go.Op.load 3 (Go.Operand.tmp 31), type := 3, pos := "law.go:148", after := #[{ on := 3, ground := Go.Ground.data }], guard := none }) (v := .int .i64 (K.S : Nat)) rfl (by kernel_rfl) (by kernel_rfl) (by kernel_rfl) (fun _ _ _ h => h) (Or.inl ⟨by rfl, fun w hSw => by (try dsimp only at hSw); go_simp⟩) hS1 ?_
  simp only [Act.put, List.setIfInBounds_toArray, List.set_cons_zero, List.set_cons_succ]
  refine wpAnyH_ready (rs := [2, 5]) (by kernel_rfl) (by simp) (AllReadyH.cons (o := { dst := some 30, op := Go.Op.call { callee := Go.Callee.value (Go.Operand.func 9), args := #[Go.Operand.tmp 29], argTypes := #[23] }, type := 28, pos := "law.go:148", after := #[{ on := 1, ground := Go.Ground.data }], guard := none }) rfl (fun KK hKK => ?_) (AllReadyH.cons (o := { dst := some 33, op := Go.Op.makeSlice 25 (Go.Operand.tmp 32) (Go.Operand.tmp 32), type := 25, pos := "law.go:148", after := #[{ on := 4, ground := Go.Ground.data }, { on := 4, ground := Go.Ground.data }], guard := none }) rfl (fun KK hKK => ?_) AllReadyH.nil))
  · go_simp
    go_at_call 9
    with_reducible refine (C9.out _).mono ?_
    rintro e w5 ⟨M, G, rfl, hm, hM, hG, b⟩
    (try simp only [])
    have st := hide (st7_a (ST3.out.below bl) hm hM hG b)
    replace bl := seq_below bl b
    rw [show (w5.alloc (.cells (madeCells #[.int .i64 0] K.S) 3)).heap.size = w5.heap.size + 1 by simp] at st
    clear hm hM hG b
    refine hKK.out _ _ (HC.out _ bl) (fun hS1 => ?_)
    (try simp only [Act.put, List.setIfInBounds_toArray, List.set_cons_zero, List.set_cons_succ])
    clear hKK KK
    refine wpAnyH_ready (rs := [5]) (by kernel_rfl) (by simp) (AllReadyH.cons (o := { dst := some 33, op := Go.Op.makeSlice 25 (Go.Operand.tmp 32) (Go.Operand.tmp 32), type := 25, pos := "law.go:148", after := #[{ on := 4, ground := Go.Ground.data }, { on := 4, ground := Go.Ground.data }], guard := none }) rfl (fun KK hKK => ?_) AllReadyH.nil)
    have hmk := HMK.out
    go_simp
    clear hmk
    have bl2 := seq_below bl (alloc_below w5 (.cells (madeCells #[.int .i64 0] K.S) 3))
    have bl3 := seq_below bl2 (alloc_below _ (.cells #[.int .i64 (K.S : Nat), .int .i64 K.a, .int .i64 (K.C : Nat), .int .i64 (K.D : Nat), .int .i64 K.g, .int .i64 K.k, .pointer (some ⟨M, 0, none⟩), .slice (some ⟨w5.heap.size, 0, none⟩) K.S K.S] 31))
    refine hKK.out _ _ (HC.out _ bl2) (fun hS1 => ?_)
    (try simp only [Act.put, List.setIfInBounds_toArray, List.set_cons_zero, List.set_cons_succ])
    clear hKK KK bl
    refine wpAnyH_ready (rs := [6]) (by kernel_rfl) (by simp) (AllReadyH.cons (o := { dst := some 34, op := Go.Op.build 31 #[(0, Go.Operand.tmp 28), (1, Go.Operand.tmp 30), (2, Go.Operand.tmp 33)], type := 31, pos := "law.go:148", after := #[{ on := 0, ground := Go.Ground.data }, { on := 2, ground := Go.Ground.data }, { on := 5, ground := Go.Ground.data }], guard := none }) rfl (fun KK hKK => ?_) AllReadyH.nil)
    go_simp
    refine hKK.out _ _ (HC.out _ bl2) (fun hS1 => ?_)
    (try simp only [Act.put, List.setIfInBounds_toArray, List.set_cons_zero, List.set_cons_succ])
    clear hKK KK
    refine wpAnyH_ready (rs := [7]) (by kernel_rfl) (by simp) (AllReadyH.cons (o := { dst := some 35, op := Go.Op.box 31 (Go.Operand.tmp 34), type := 27, pos := "law.go:148", after := #[{ on := 6, ground := Go.Ground.data }], guard := none }) rfl (fun KK hKK => ?_) AllReadyH.nil)
    go_simp
    refine hKK.out _ _ (HC.out _ bl3) (fun hS1 => ?_)
    (try simp only [Act.put, List.setIfInBounds_toArray, List.set_cons_zero, List.set_cons_succ])
    clear hKK KK
    generalize w5.heap.size + 1 = B at *
    generalize w5.heap.size = D at *
    generalize (w5.alloc (.cells (madeCells #[.int .i64 0] K.S) 3)).alloc (.cells #[.int .i64 (K.S : Nat), .int .i64 K.a, .int .i64 (K.C : Nat), .int .i64 (K.D : Nat), .int .i64 K.g, .int .i64 K.k, .pointer (some ⟨M, 0, none⟩), .slice (some ⟨D, 0, none⟩) K.S K.S] 31) = w7 at *
    refine wpAnyH_take (i := 8) (oi := { dst := some 7, op := Go.Op.assign (Go.Operand.tmp 35), type := 27, pos := "law.go:148", after := #[{ on := 7, ground := Go.Ground.data }, { on := 2, ground := Go.Ground.chain }, { on := 0, ground := Go.Ground.phase }, { on := 1, ground := Go.Ground.phase }, { on := 2, ground := Go.Ground.phase }, { on := 3, ground := Go.Ground.phase }, { on := 4, ground := Go.Ground.phase }, { on := 5, ground := Go.Ground.phase }, { on := 6, ground := Go.Ground.phase }, { on := 7, ground := Go.Ground.phase }], guard := none }) (v := .pointer (some ⟨B, 0, none⟩)) rfl (by kernel_rfl) (by kernel_rfl) (by kernel_rfl) (fun _ _ _ h => h) (Or.inl ⟨by rfl, fun w hSw => by (try dsimp only at hSw); go_simp⟩) hS1 ?_
    simp only [Act.put, List.setIfInBounds_toArray, List.set_cons_zero, List.set_cons_succ]
    refine wpAnyH_done (by kernel_rfl) ?_ _
    clear hS1 HC HMK C9 ST3
    have hz' : ¬ ((6 : Int) < (nz : Int)) := by omega
    have b6 := st.out.wd.cells.2.1
    have c10 := hide (awake_any _ st.out.wt)
    clear bl3
    go_upto_region 6 with (go_at_call 10; refine Calls.mono c10.out ?_; rintro e w8 ⟨rfl, hb⟩)
    replace st := hide (st.out.below hb)
    clear hb b6 c10 hz'
    obtain ⟨i0, hi0, hz0, hz1, hz2⟩ := info_parts Tryd.info41
    go_wp2_with (at_make; refine wpList_make_full _ rfl _ _ 33 rfl w8.heap.size 41 i0 (.agg #[.slice none 0 0, .bool false, .bool false, .int .u8 0, .int .u8 0, .int .u64 0, .slice none 0 0, .pointer none, .pointer none, .int .i64 0]) 10 Tryd.underlying33 hi0 hz0 hz1 .i64 .i64 nz nz nz rfl rfl rfl rfl ?c1 ?c2 (Nat.le_refl _) ?_)
    case c1 => rw [hz2]; omega
    case c2 => unfold maxLen; omega
    intro w9 hown hgrow
    have hrow := made_row (L := w8.heap.size) (n := nz) (by exact hown)
    have st9 := st.out.below (Mm.of_grown hgrow)
    have hL8 := st.out.bel.size
    have hK8 := st.out.cfg.lt
    have ws0 := ws_new (n := nz) HK.out.1 HK.out.2.1 st9.mem st9.wt hrow st9.wd st9.cnt st9.bel st9.cfg (fun b hb => by
      have h1 := st.out.hi
      simp only [List.mem_cons, List.not_mem_nil, or_false] at hb h1
      rcases hb with h | h | h | h | h
      · exact (h1 b (.inl h)).1
      · exact (h1 b (.inr (.inl h))).1
      · exact (h1 b (.inr (.inr (.inl h)))).1
      · exact (h1 b (.inr (.inr (.inr h)))).1
      · omega) (by
      have h1 := st.out.hi
      have h2 := st.out.ne
      have e1 := (h1 M (by simp)).2
      have e2 := (h1 G (by simp)).2
      have e3 := (h1 B (by simp)).2
      have e4 := (h1 D (by simp)).2
      simp only [List.nodup_cons, List.mem_cons, List.not_mem_nil, or_false, not_or, List.nodup_nil, and_true, not_false_eq_true] at h2 ⊢
      omega)
    generalize w8.heap.size = L at *
    have wp : Wp w w9 K nz M G B D L 0 := ⟨_, _, _, _, _, _, _, _, Nat.le_refl _, ⟨Int.le_refl _, Int.le_refl _⟩, ws0⟩
    have HI := hide HK.out
    clear ws0 st9 hrow hown hgrow st hi0 hz0 hz1 hz2 hL8 hK8 HK
    go_wp2
    go_loopw [9] (fun i wr => ∃ j : Nat, j ≤ nz ∧ i = .int .i64 j ∧ Wp w wr K nz M G B D L 0) (fun i _ => nz - (intOf i).toNat)
    case atStart => exact ⟨0, Nat.zero_le _, rfl, wp⟩
    case round =>
      clear wp
      obtain ⟨j, hj, rfl, wp⟩ := hrel
      by_cases hjn : j < nz
      · have hjn' : (j : Int) < (nz : Int) := by omega
        obtain ⟨b, off, za, zk, zc, hwad, hbl, hq, hk1, hk2, hwk⟩ := HC0.out j hjn
        have q := (wp.bel.cell (p := ⟨b, off + j, none⟩) hbl).trans hq
        obtain ⟨⟨v, cL⟩, fL, wp2⟩ := wp.give hjn hwk ⟨hk1, hk2⟩
        have WP2 := hide wp2
        subst hwad
        generalize zk.length = zn at *
        clear wp wp2 hwk hq hbl hk1 hk2
        go_wp2
        go_roundw
        case rel => exact ⟨j + 1, by omega, by go_num, WP2.out⟩
        case measure => simp [intOf]; omega
      · have hjn' : j = nz := by omega
        subst hjn'
        clear hjn
        go_wp2
        go_loopw [10] (fun i wr => ∃ p : Nat, p ≤ np ∧ p ≤ 500 ∧ i = .int .i64 p ∧ Wp w wr K j M G B D L p) (fun i _ => 500 - (intOf i).toNat)
        case atStart => exact ⟨0, Nat.zero_le _, by omega, rfl, wp⟩
        case round =>
          clear wp
          obtain ⟨p, hp, hp5, rfl, wp⟩ := hrel
          by_cases hpn : p < np
          · have hpn' : (p : Int) < (np : Int) := by omega
            by_cases hp6 : p < 500
            · have hp6' : (p : Int) < 500 := by omega
              obtain ⟨b, off, hpad, hbl, hq⟩ := HY0.out p hpn
              have q := (wp.bel.cell (p := ⟨b, off + p, none⟩) hbl).trans hq
              subst hpad
              clear hq hbl
              generalize Y p = x at q
              by_cases hx0 : 0 ≤ x
              · by_cases hxn : x < (j : Int)
                · obtain ⟨i, rfl⟩ : ∃ i : Nat, x = (i : Int) := ⟨x.toNat, by omega⟩
                  have c11 := hide (wp.turn HI.out.1 HI.out.2.2.1 (by omega) (i := i) (by omega))
                  clear wp
                  go_upto_region 17 with (go_at_call 11; with_reducible refine Calls.mono c11.out ?_; rintro e w10 ⟨rfl, wp⟩)
                  clear q c11 hx0 hxn
                  go_wp2
                  as_aux_lemma =>
                    go_loopw [12] (fun ia wr => ∃ a : Nat, a ≤ j ∧ ia = .int .i64 a ∧ Wp w wr K j M G B D L (p + 1)) (fun ia _ => j - (intOf ia).toNat)
                    case atStart => exact ⟨0, Nat.zero_le _, rfl, wp⟩
                    case round =>
                      clear wp
                      obtain ⟨a, ha, rfl, wp⟩ := hrel
                      by_cases haj : a < j
                      · have haj' : (a : Int) < (j : Int) := by omega
                        go_wp2
                        go_loopw [13] (fun ib wr => ∃ b : Nat, b ≤ a ∧ ib = .int .i64 b ∧ Wp w wr K j M G B D L (p + 1)) (fun ib _ => a - (intOf ib).toNat)
                        case atStart => exact ⟨0, Nat.zero_le _, rfl, wp⟩
                        case round =>
                          clear wp
                          obtain ⟨b, hb, rfl, wp⟩ := hrel
                          by_cases hba : b < a
                          · have hba' : (b : Int) < (a : Int) := by omega
                            have hbj : (b : Int) < (j : Int) := by omega
                            go_upto_region 23 with fail
                            replace wp := wp.drew
                            obtain ⟨hva, hvb, q1, q2, c12⟩ := wp.two HI.out.1 haj hba
                            have C12 := hide c12
                            clear c12
                            go_region_held (fun wr => wr.cell? ⟨L, a * 10 + 6, none⟩ = some hva ∧ wr.cell? ⟨L, b * 10 + 6, none⟩ = some hvb) (with_reducible exact ⟨q1, q2⟩) (first | (go_at_call 12; with_reducible refine Calls.mono C12.out ?_; rintro e w11 ⟨rfl, rfl⟩))
                            go_wp2
                            go_roundw
                            case rel => exact ⟨b + 1, by omega, by go_num, wp⟩
                            case measure => simp [intOf]; omega
                          · have hbe : b = a := by omega
                            subst hbe
                            go_wp2
                            go_roundw
                            case rel => exact ⟨b + 1, by omega, by go_num, wp⟩
                            case measure => simp [intOf]; omega
                      · have hae : a = j := by omega
                        subst hae
                        go_wp2
                        go_roundw
                        case rel => exact ⟨p + 1, by omega, by omega, by go_num, wp⟩
                        case measure => simp [intOf]; omega
                · replace wp := wp.more
                  go_upto_region 17 with fail
                  clear q hx0 hxn
                  go_wp2
                  as_aux_lemma =>
                    go_loopw [12] (fun ia wr => ∃ a : Nat, a ≤ j ∧ ia = .int .i64 a ∧ Wp w wr K j M G B D L (p + 1)) (fun ia _ => j - (intOf ia).toNat)
                    case atStart => exact ⟨0, Nat.zero_le _, rfl, wp⟩
                    case round =>
                      clear wp
                      obtain ⟨a, ha, rfl, wp⟩ := hrel
                      by_cases haj : a < j
                      · have haj' : (a : Int) < (j : Int) := by omega
                        go_wp2
                        go_loopw [13] (fun ib wr => ∃ b : Nat, b ≤ a ∧ ib = .int .i64 b ∧ Wp w wr K j M G B D L (p + 1)) (fun ib _ => a - (intOf ib).toNat)
                        case atStart => exact ⟨0, Nat.zero_le _, rfl, wp⟩
                        case round =>
                          clear wp
                          obtain ⟨b, hb, rfl, wp⟩ := hrel
                          by_cases hba : b < a
                          · have hba' : (b : Int) < (a : Int) := by omega
                            have hbj : (b : Int) < (j : Int) := by omega
                            go_upto_region 23 with fail
                            replace wp := wp.drew
                            obtain ⟨hva, hvb, q1, q2, c12⟩ := wp.two HI.out.1 haj hba
                            have C12 := hide c12
                            clear c12
                            go_region_held (fun wr => wr.cell? ⟨L, a * 10 + 6, none⟩ = some hva ∧ wr.cell? ⟨L, b * 10 + 6, none⟩ = some hvb) (with_reducible exact ⟨q1, q2⟩) (first | (go_at_call 12; with_reducible refine Calls.mono C12.out ?_; rintro e w11 ⟨rfl, rfl⟩))
                            go_wp2
                            go_roundw
                            case rel => exact ⟨b + 1, by omega, by go_num, wp⟩
                            case measure => simp [intOf]; omega
                          · have hbe : b = a := by omega
                            subst hbe
                            go_wp2
                            go_roundw
                            case rel => exact ⟨b + 1, by omega, by go_num, wp⟩
                            case measure => simp [intOf]; omega
                      · have hae : a = j := by omega
                        subst hae
                        go_wp2
                        go_roundw
                        case rel => exact ⟨p + 1, by omega, by omega, by go_num, wp⟩
                        case measure => simp [intOf]; omega
              · replace wp := wp.more
                go_upto_region 17 with fail
                clear q hx0
                go_wp2
                as_aux_lemma =>
                  go_loopw [12] (fun ia wr => ∃ a : Nat, a ≤ j ∧ ia = .int .i64 a ∧ Wp w wr K j M G B D L (p + 1)) (fun ia _ => j - (intOf ia).toNat)
                  case atStart => exact ⟨0, Nat.zero_le _, rfl, wp⟩
                  case round =>
                    clear wp
                    obtain ⟨a, ha, rfl, wp⟩ := hrel
                    by_cases haj : a < j
                    · have haj' : (a : Int) < (j : Int) := by omega
                      go_wp2
                      go_loopw [13] (fun ib wr => ∃ b : Nat, b ≤ a ∧ ib = .int .i64 b ∧ Wp w wr K j M G B D L (p + 1)) (fun ib _ => a - (intOf ib).toNat)
                      case atStart => exact ⟨0, Nat.zero_le _, rfl, wp⟩
                      case round =>
                        clear wp
                        obtain ⟨b, hb, rfl, wp⟩ := hrel
                        by_cases hba : b < a
                        · have hba' : (b : Int) < (a : Int) := by omega
                          have hbj : (b : Int) < (j : Int) := by omega
                          go_upto_region 23 with fail
                          replace wp := wp.drew
                          obtain ⟨hva, hvb, q1, q2, c12⟩ := wp.two HI.out.1 haj hba
                          have C12 := hide c12
                          clear c12
                          go_region_held (fun wr => wr.cell? ⟨L, a * 10 + 6, none⟩ = some hva ∧ wr.cell? ⟨L, b * 10 + 6, none⟩ = some hvb) (with_reducible exact ⟨q1, q2⟩) (first | (go_at_call 12; with_reducible refine Calls.mono C12.out ?_; rintro e w11 ⟨rfl, rfl⟩))
                          go_wp2
                          go_roundw
                          case rel => exact ⟨b + 1, by omega, by go_num, wp⟩
                          case measure => simp [intOf]; omega
                        · have hbe : b = a := by omega
                          subst hbe
                          go_wp2
                          go_roundw
                          case rel => exact ⟨b + 1, by omega, by go_num, wp⟩
                          case measure => simp [intOf]; omega
                    · have hae : a = j := by omega
                      subst hae
                      go_wp2
                      go_roundw
                      case rel => exact ⟨p + 1, by omega, by omega, by go_num, wp⟩
                      case measure => simp [intOf]; omega
            · have hp6' : ¬ ((p : Int) < 500) := by omega
              as_aux_lemma =>
                obtain ⟨X, T, tag, F, md, cur, R, A, htg, hT, ws⟩ := wp
                have b6 := ws.wd.cells.2.1
                have c13 := hide (wordsX ws.mem ws.inv.tp.len (by have := HI.out.1.N_b; omega))
                have HX64 := hide ws.mem.fits
                obtain ⟨l0, l1, l2, l3, l4, l5⟩ := ws.cells
                have WS := hide ws
                clear ws htg hT
                go_upto_region 26 with (go_at_call 13; refine Calls.mono c13.out ?_; rintro e w10 ⟨Q, rfl, hq, hQ, hb⟩; replace WS := hide (WS.out.below hb); clear l0 l1 l2 l3 l4 l5 b6 hQ hb)
                obtain ⟨l0, l1, l2, l3, l4, l5⟩ := WS.out.cells
                have c14 := hide (rlist_Y HI.out.1 hq WS.out.inv.tp HX64.out)
                have HQ := hide hq
                clear hq c13
                go_upto_region 27 with (go_at_call 14; refine Calls.mono c14.out ?_; rintro e w11 ⟨fv, rfl, hI, hfv, hb⟩; replace WS := hide (WS.out.below hb); replace HQ := hide (words_below HQ.out hb); clear l0 l1 l2 l3 l4 l5 hfv hb)
                clear c14
                have hFl : F.length ≤ 65536 := by
                  have h1 := nodup_len K.S F WS.out.inv.tp.nd WS.out.inv.tp.ch.lt
                  have := HI.out.2.2.2
                  omega
                have HFL := hide hFl
                clear hFl
                go_wp2
                go_loopw [16] (fun x wr => ∃ y : Nat, y ≤ K.S ∧ x = .int .i64 y ∧ Hid (Ws w wr K j M G B D L X T tag F md cur R A) ∧ Hid (IsWords wr Q X) ∧ Hid (IsI wr fv F)) (fun x _ => K.S - (intOf x).toNat)
                case atStart => exact ⟨0, Nat.zero_le _, rfl, WS, HQ, hI⟩
                case round =>
                  clear WS HQ hI
                  obtain ⟨y, hy, rfl, WS, HQ, HF⟩ := hrel
                  have l0 := WS.out.cells.1
                  by_cases hyS : y < K.S
                  · have hyS' : (y : Int) < (K.S : Int) := by omega
                    obtain ⟨um, ug, ua, us, uz, c15'⟩ := unp_all (HX64.out (K.hd y))
                    have hln : X.length = K.N := WS.out.inv.tp.len
                    have hdl : K.hd y < K.N := K.hd_lt hyS
                    have HDL : Hid (K.hd y < X.length) := by unfold Hid; omega
                    have LAST := hide (WS.out.inv.last (by have := HI.out.2.2.1; omega) y j (Nat.le_refl _))
                    have c16 : Hid (∀ wr, Hid (Ws w wr K j M G B D L X T tag F md cur R A) → Calls Tryd.prog 16 #[.pointer (some ⟨B, 0, none⟩), .string ⟨#[104, 101, 97, 100, 101, 114]⟩, .int .i64 (y : Nat), .int .i64 0] wr fun e w' => e = .returned (.int .i64 (K.hd y : Nat)) ∧ Below wr.heap.size wr w') := fun wr h => wat16_hd HI.out.1 h.out.wd hyS
                    obtain ⟨W, hW⟩ : ∃ W, X.getD (K.hd y) 0 = W := ⟨_, rfl⟩
                    rw [hW] at c15' LAST
                    obtain ⟨hd, hhd⟩ : ∃ hd, K.hd y = hd := ⟨_, rfl⟩
                    rw [hhd] at hW hdl HDL c16
                    have HW := hide hW
                    obtain ⟨NN, hNN⟩ : ∃ NN, K.N = NN := ⟨_, rfl⟩
                    rw [hNN] at hdl
                    obtain ⟨kd, hkd⟩ : ∃ kd, kdW W = kd := ⟨_, rfl⟩
                    obtain ⟨gn, hgn⟩ : ∃ gn, genW W = gn := ⟨_, rfl⟩
                    rw [hkd, hgn] at c15' LAST
                    have c15 := hide c15'
                    clear hW hhd hkd hgn c15' hln
                    rw [hNN]
                    clear hNN
                    go_upto_region 31 with (first
                      | (go_at_call 16; with_reducible refine (c16.out _ WS).mono ?_; rintro e w12 ⟨rfl, hb⟩; replace WS := hide (WS.out.below hb); replace HQ := hide (words_below HQ.out hb); replace HF := hide (HF.out.below hb); clear hb l0; have hqc := word_cell HQ.out HDL.out HW.out)
                      | (go_at_call 15; with_reducible refine (c15.out _).mono ?_; rintro e w13 ⟨rfl, hb⟩; replace WS := hide (WS.out.below hb); replace HQ := hide (words_below HQ.out hb); replace HF := hide (HF.out.below hb); clear hb hqc))
                    have hR9 := Hh.hd_new w13 (kd : Nat) um ug ua (gn : Nat) us
                    have hb13 := alloc_below w13 (.cells #[.int .i64 (kd : Nat), .int .i64 um, .bool ug, .int .i64 ua, .int .i64 (gn : Nat), .int .i64 us] 48)
                    replace WS := hide (WS.out.below hb13)
                    replace HQ := hide (words_below HQ.out hb13)
                    replace HF := hide (HF.out.below hb13)
                    clear hb13
                    generalize w13.heap.size = R9 at *
                    generalize w13.alloc (.cells #[.int .i64 (kd : Nat), .int .i64 um, .bool ug, .int .i64 ua, .int .i64 (gn : Nat), .int .i64 us] 48) = w14 at *
                    obtain ⟨k0, _, _, _, k4, _⟩ := hR9.cells
                    have b7 := WS.out.wd.cells.2.2
                    have dy := WS.out.cnt.cell (s := y) (by rw [WS.out.inv.ml]; exact hyS)
                    obtain ⟨mv, hmv⟩ : ∃ mv, md.getD y 0 = mv := ⟨_, rfl⟩
                    rw [hmv] at dy LAST
                    have q17' := has_any HF.out HFL.out y
                    have LAST0 := LAST.out
                    obtain ⟨nb, hnb⟩ : ∃ nb, (if y ∈ F ∨ kd = 4 then 1 else 0) = nb := ⟨_, rfl⟩
                    rw [hnb] at LAST0
                    have LST := hide LAST0
                    have hS12 : K.S ≤ 12 := HI.out.2.2.2
                    clear hmv LAST LAST0 hR9 hdl HDL HW c15 c16
                    by_cases hm : y ∈ F
                    · as_aux_lemma =>
                      rw [if_pos (.inl hm)] at hnb
                      subst hnb
                      rw [decide_eq_true hm] at q17'
                      have q17 := hide q17'
                      have HN : Hid (1 = 1 + cntH R y 0) := rfl
                      have HNB : Hid (1 ≤ 1 ∧ (1 : Nat) = 1) := ⟨Nat.le_refl 1, rfl⟩
                      clear q17' hm
                      go_wp2_with (go_at_call 17; with_reducible refine Calls.mono q17.out ?_; rintro e w15 ⟨rfl, rfl⟩)
                      clear q17
                      go_loop [19, 20] (fun nn i => ∃ (N i' : Nat), i' ≤ j ∧ i = .int .i64 i' ∧ nn = .int .i64 N ∧ Hid (N = 1 + cntH R y i')) (fun _ i => j - (intOf i).toNat)
                      case atStart => exact ⟨_, 0, Nat.zero_le _, rfl, rfl, HN⟩
                      case round =>
                        clear HN
                        obtain ⟨N, i, hij, rfl, rfl, hN⟩ := hrel
                        by_cases hin : i < j
                        · have hin' : (i : Int) < (j : Int) := by omega
                          obtain ⟨z6, zI, zl⟩ := WS.out.had HI.out.1 hin
                          have qi := has_any zI zl y
                          have hN1 : N ≤ 20 := by
                            have h0 := hN.out
                            have h1 := (WS.out.inv.cnt y i (by omega)).1
                            have := HNB.out
                            omega
                          obtain ⟨hvi, hvie⟩ : ∃ hvi, (A i).hv = hvi := ⟨_, rfl⟩
                          rw [hvie] at z6 qi
                          clear hvie zI zl
                          by_cases hmi : y ∈ (R i).has
                          · rw [decide_eq_true hmi] at qi
                            have QI := hide qi
                            have hN2 : Hid (N + 1 = 1 + cntH R y (i + 1)) := by have h0 := hN.out; unfold Hid; unfold cntH; rw [if_pos hmi]; omega
                            clear qi hN hmi
                            go_wp2_with (go_at_call 17; with_reducible refine Calls.mono QI.out ?_; rintro e w16 ⟨rfl, rfl⟩)
                            go_round
                            case rel => exact ⟨_, i + 1, by omega, by go_num, by go_num, hN2⟩
                            case measure => simp [intOf]; omega
                          · rw [decide_eq_false hmi] at qi
                            have QI := hide qi
                            have hN2 : Hid (N = 1 + cntH R y (i + 1)) := by have h0 := hN.out; unfold Hid; unfold cntH; rw [if_neg hmi]; omega
                            clear qi hN hmi
                            go_wp2_with (go_at_call 17; with_reducible refine Calls.mono QI.out ?_; rintro e w16 ⟨rfl, rfl⟩)
                            go_round
                            case rel => exact ⟨_, i + 1, by omega, by go_num, by go_num, hN2⟩
                            case measure => simp [intOf]; omega
                        · have hie : i = j := by omega
                          subst hie
                          have hN9 : N ≤ 1 := by have h0 := hN.out; have h1 := LST.out.1; omega
                          have hN8 : ¬ (1 < (N : Int)) := by omega
                          have hN7 : decide (1 < (N : Int)) = false := decide_eq_false hN8
                          have HB : Hid (N = 1 → kd = 0 → gn = mv) := fun h1 h2 => LST.out.2 (by have h0 := hN.out; omega) h2
                          clear LST
                          by_cases hk0 : kd = 0
                          · have HN1 : N = 1 := by have := hN.out; have := HNB.out; omega
                            have hge : gn = mv := HB.out HN1 hk0
                            subst hge
                            subst hk0
                            clear HB
                            go_wp2
                            go_quiet (fail)
                            go_wp2
                            go_roundw
                            case rel => exact ⟨y + 1, by omega, by go_num, hide (WS.out.below (Hh.below_drewN (Below.refl _ _) _)), hide (words_below HQ.out (Hh.below_drewN (Below.refl _ _) _)), hide (HF.out.below (Hh.below_drewN (Below.refl _ _) _))⟩
                            case measure => simp [intOf]; omega
                          · have hk1 : ¬ ((kd : Int) = 0) := by omega
                            have hk2 : ((kd : Int) == 0) = false := by simpa using hk0
                            clear hk0
                            go_wp2
                            go_quiet (fail)
                            go_wp2
                            go_roundw
                            case rel => exact ⟨y + 1, by omega, by go_num, hide (WS.out.below (Hh.below_drewN (Below.refl _ _) _)), hide (words_below HQ.out (Hh.below_drewN (Below.refl _ _) _)), hide (HF.out.below (Hh.below_drewN (Below.refl _ _) _))⟩
                            case measure => simp [intOf]; omega
                    · by_cases h4 : kd = 4
                      · as_aux_lemma =>
                        rw [if_pos (.inr h4)] at hnb
                        subst hnb
                        subst h4
                        rw [decide_eq_false hm] at q17'
                        have q17 := hide q17'
                        have HN : Hid (1 = 1 + cntH R y 0) := rfl
                        have HNB : Hid (1 ≤ 1 ∧ (1 : Nat) = 1) := ⟨Nat.le_refl 1, rfl⟩
                        clear q17' hm
                        go_wp2_with (go_at_call 17; with_reducible refine Calls.mono q17.out ?_; rintro e w15 ⟨rfl, rfl⟩)
                        clear q17
                        go_loop [19, 20] (fun nn i => ∃ (N i' : Nat), i' ≤ j ∧ i = .int .i64 i' ∧ nn = .int .i64 N ∧ Hid (N = 1 + cntH R y i')) (fun _ i => j - (intOf i).toNat)
                        case atStart => exact ⟨_, 0, Nat.zero_le _, rfl, rfl, HN⟩
                        case round =>
                          clear HN
                          obtain ⟨N, i, hij, rfl, rfl, hN⟩ := hrel
                          by_cases hin : i < j
                          · have hin' : (i : Int) < (j : Int) := by omega
                            obtain ⟨z6, zI, zl⟩ := WS.out.had HI.out.1 hin
                            have qi := has_any zI zl y
                            have hN1 : N ≤ 20 := by
                              have h0 := hN.out
                              have h1 := (WS.out.inv.cnt y i (by omega)).1
                              have := HNB.out
                              omega
                            obtain ⟨hvi, hvie⟩ : ∃ hvi, (A i).hv = hvi := ⟨_, rfl⟩
                            rw [hvie] at z6 qi
                            clear hvie zI zl
                            by_cases hmi : y ∈ (R i).has
                            · rw [decide_eq_true hmi] at qi
                              have QI := hide qi
                              have hN2 : Hid (N + 1 = 1 + cntH R y (i + 1)) := by have h0 := hN.out; unfold Hid; unfold cntH; rw [if_pos hmi]; omega
                              clear qi hN hmi
                              go_wp2_with (go_at_call 17; with_reducible refine Calls.mono QI.out ?_; rintro e w16 ⟨rfl, rfl⟩)
                              go_round
                              case rel => exact ⟨_, i + 1, by omega, by go_num, by go_num, hN2⟩
                              case measure => simp [intOf]; omega
                            · rw [decide_eq_false hmi] at qi
                              have QI := hide qi
                              have hN2 : Hid (N = 1 + cntH R y (i + 1)) := by have h0 := hN.out; unfold Hid; unfold cntH; rw [if_neg hmi]; omega
                              clear qi hN hmi
                              go_wp2_with (go_at_call 17; with_reducible refine Calls.mono QI.out ?_; rintro e w16 ⟨rfl, rfl⟩)
                              go_round
                              case rel => exact ⟨_, i + 1, by omega, by go_num, by go_num, hN2⟩
                              case measure => simp [intOf]; omega
                          · have hie : i = j := by omega
                            subst hie
                            have hN9 : N ≤ 1 := by have h0 := hN.out; have h1 := LST.out.1; omega
                            have hN8 : ¬ (1 < (N : Int)) := by omega
                            have hN7 : decide (1 < (N : Int)) = false := decide_eq_false hN8
                            have HB : Hid (N = 1 → (4 : Nat) = 0 → gn = mv) := fun h1 h2 => LST.out.2 (by have h0 := hN.out; omega) h2
                            clear LST
                            go_wp2
                            go_quiet (fail)
                            go_wp2
                            go_roundw
                            case rel => exact ⟨y + 1, by omega, by go_num, hide (WS.out.below (Hh.below_drewN (Below.refl _ _) _)), hide (words_below HQ.out (Hh.below_drewN (Below.refl _ _) _)), hide (HF.out.below (Hh.below_drewN (Below.refl _ _) _))⟩
                            case measure => simp [intOf]; omega
                      · as_aux_lemma =>
                        rw [if_neg (fun h => h.elim hm h4)] at hnb
                        subst hnb
                        have h4' : ¬ ((kd : Int) = 4) := by omega
                        have h4'' : ((kd : Int) == 4) = false := beq_false_of_ne h4'
                        rw [decide_eq_false hm] at q17'
                        have q17 := hide q17'
                        have HN : Hid (0 = 0 + cntH R y 0) := rfl
                        have HNB : Hid (0 ≤ 1 ∧ (0 : Nat) = 0) := ⟨Nat.zero_le 1, rfl⟩
                        clear q17' hm h4
                        go_wp2_with (go_at_call 17; with_reducible refine Calls.mono q17.out ?_; rintro e w15 ⟨rfl, rfl⟩)
                        clear q17
                        go_loop [19, 20] (fun nn i => ∃ (N i' : Nat), i' ≤ j ∧ i = .int .i64 i' ∧ nn = .int .i64 N ∧ Hid (N = 0 + cntH R y i')) (fun _ i => j - (intOf i).toNat)
                        case atStart => exact ⟨_, 0, Nat.zero_le _, rfl, rfl, HN⟩
                        case round =>
                          clear HN
                          obtain ⟨N, i, hij, rfl, rfl, hN⟩ := hrel
                          by_cases hin : i < j
                          · have hin' : (i : Int) < (j : Int) := by omega
                            obtain ⟨z6, zI, zl⟩ := WS.out.had HI.out.1 hin
                            have qi := has_any zI zl y
                            have hN1 : N ≤ 20 := by
                              have h0 := hN.out
                              have h1 := (WS.out.inv.cnt y i (by omega)).1
                              have := HNB.out
                              omega
                            obtain ⟨hvi, hvie⟩ : ∃ hvi, (A i).hv = hvi := ⟨_, rfl⟩
                            rw [hvie] at z6 qi
                            clear hvie zI zl
                            by_cases hmi : y ∈ (R i).has
                            · rw [decide_eq_true hmi] at qi
                              have QI := hide qi
                              have hN2 : Hid (N + 1 = 0 + cntH R y (i + 1)) := by have h0 := hN.out; unfold Hid; unfold cntH; rw [if_pos hmi]; omega
                              clear qi hN hmi
                              go_wp2_with (go_at_call 17; with_reducible refine Calls.mono QI.out ?_; rintro e w16 ⟨rfl, rfl⟩)
                              go_round
                              case rel => exact ⟨_, i + 1, by omega, by go_num, by go_num, hN2⟩
                              case measure => simp [intOf]; omega
                            · rw [decide_eq_false hmi] at qi
                              have QI := hide qi
                              have hN2 : Hid (N = 0 + cntH R y (i + 1)) := by have h0 := hN.out; unfold Hid; unfold cntH; rw [if_neg hmi]; omega
                              clear qi hN hmi
                              go_wp2_with (go_at_call 17; with_reducible refine Calls.mono QI.out ?_; rintro e w16 ⟨rfl, rfl⟩)
                              go_round
                              case rel => exact ⟨_, i + 1, by omega, by go_num, by go_num, hN2⟩
                              case measure => simp [intOf]; omega
                          · have hie : i = j := by omega
                            subst hie
                            have hN9 : N ≤ 1 := by have h0 := hN.out; have h1 := LST.out.1; omega
                            have hN8 : ¬ (1 < (N : Int)) := by omega
                            have hN7 : decide (1 < (N : Int)) = false := decide_eq_false hN8
                            have HB : Hid (N = 1 → kd = 0 → gn = mv) := fun h1 h2 => LST.out.2 (by have h0 := hN.out; omega) h2
                            clear LST
                            by_cases hk0 : kd = 0
                            · by_cases HN1 : N = 1
                              · have hge : gn = mv := HB.out HN1 hk0
                                subst hge
                                subst hk0
                                clear HB
                                go_wp2
                                go_quiet (fail)
                                go_wp2
                                go_roundw
                                case rel => exact ⟨y + 1, by omega, by go_num, hide (WS.out.below (Hh.below_drewN (Below.refl _ _) _)), hide (words_below HQ.out (Hh.below_drewN (Below.refl _ _) _)), hide (HF.out.below (Hh.below_drewN (Below.refl _ _) _))⟩
                                case measure => simp [intOf]; omega
                              · have hN3 : ¬ ((N : Int) = 1) := by omega
                                have hN4 : ((N : Int) == 1) = false := beq_false_of_ne hN3
                                subst hk0
                                clear HB
                                by_cases hgm : gn = mv
                                · subst hgm
                                  go_wp2
                                  go_quiet (fail)
                                  go_wp2
                                  go_roundw
                                  case rel => exact ⟨y + 1, by omega, by go_num, hide (WS.out.below (Hh.below_drewN (Below.refl _ _) _)), hide (words_below HQ.out (Hh.below_drewN (Below.refl _ _) _)), hide (HF.out.below (Hh.below_drewN (Below.refl _ _) _))⟩
                                  case measure => simp [intOf]; omega
                                · have hgm' : ¬ ((gn : Int) = (mv : Int)) := by omega
                                  have hgm2 : ((gn : Int) == (mv : Int)) = false := beq_false_of_ne hgm'
                                  have hgm3 : ((gn : Int) != (mv : Int)) = true := bne_iff_ne.2 hgm'
                                  clear hgm
                                  go_wp2
                                  go_quiet (fail)
                                  go_wp2
                                  go_roundw
                                  case rel => exact ⟨y + 1, by omega, by go_num, hide (WS.out.below (Hh.below_drewN (Below.refl _ _) _)), hide (words_below HQ.out (Hh.below_drewN (Below.refl _ _) _)), hide (HF.out.below (Hh.below_drewN (Below.refl _ _) _))⟩
                                  case measure => simp [intOf]; omega
                            · have hk1 : ¬ ((kd : Int) = 0) := by omega
                              have hk2 : ((kd : Int) == 0) = false := by simpa using hk0
                              clear hk0
                              go_wp2
                              go_quiet (fail)
                              go_wp2
                              go_roundw
                              case rel => exact ⟨y + 1, by omega, by go_num, hide (WS.out.below (Hh.below_drewN (Below.refl _ _) _)), hide (words_below HQ.out (Hh.below_drewN (Below.refl _ _) _)), hide (HF.out.below (Hh.below_drewN (Below.refl _ _) _))⟩
                              case measure => simp [intOf]; omega
                  · have hyE : y = K.S := by omega
                    have hNb := HI.out.1.N_b
                    have hq2 : wr.cell? ⟨Q, 2, none⟩ = some (.int .u64 0) := word_cell (v := 0) HQ.out (by rw [WS.out.inv.tp.len]; omega) WS.out.inv.x2
                    have h2N : (2 : Int) < (K.N : Int) := by omega
                    subst hyE
                    go_wp2
                    go_ret
                    exact ⟨rfl, WS.out.bel⟩
          · have hpn' : ¬ ((p : Int) < (np : Int)) := by omega
            as_aux_lemma =>
              obtain ⟨X, T, tag, F, md, cur, R, A, htg, hT, ws⟩ := wp
              have b6 := ws.wd.cells.2.1
              have c13 := hide (wordsX ws.mem ws.inv.tp.len (by have := HI.out.1.N_b; omega))
              have HX64 := hide ws.mem.fits
              obtain ⟨l0, l1, l2, l3, l4, l5⟩ := ws.cells
              have WS := hide ws
              clear ws htg hT
              go_upto_region 26 with (go_at_call 13; refine Calls.mono c13.out ?_; rintro e w10 ⟨Q, rfl, hq, hQ, hb⟩; replace WS := hide (WS.out.below hb); clear l0 l1 l2 l3 l4 l5 b6 hQ hb)
              obtain ⟨l0, l1, l2, l3, l4, l5⟩ := WS.out.cells
              have c14 := hide (rlist_Y HI.out.1 hq WS.out.inv.tp HX64.out)
              have HQ := hide hq
              clear hq c13
              go_upto_region 27 with (go_at_call 14; refine Calls.mono c14.out ?_; rintro e w11 ⟨fv, rfl, hI, hfv, hb⟩; replace WS := hide (WS.out.below hb); replace HQ := hide (words_below HQ.out hb); clear l0 l1 l2 l3 l4 l5 hfv hb)
              clear c14
              have hFl : F.length ≤ 65536 := by
                have h1 := nodup_len K.S F WS.out.inv.tp.nd WS.out.inv.tp.ch.lt
                have := HI.out.2.2.2
                omega
              have HFL := hide hFl
              clear hFl
              go_wp2
              go_loopw [16] (fun x wr => ∃ y : Nat, y ≤ K.S ∧ x = .int .i64 y ∧ Hid (Ws w wr K j M G B D L X T tag F md cur R A) ∧ Hid (IsWords wr Q X) ∧ Hid (IsI wr fv F)) (fun x _ => K.S - (intOf x).toNat)
              case atStart => exact ⟨0, Nat.zero_le _, rfl, WS, HQ, hI⟩
              case round =>
                clear WS HQ hI
                obtain ⟨y, hy, rfl, WS, HQ, HF⟩ := hrel
                have l0 := WS.out.cells.1
                by_cases hyS : y < K.S
                · have hyS' : (y : Int) < (K.S : Int) := by omega
                  obtain ⟨um, ug, ua, us, uz, c15'⟩ := unp_all (HX64.out (K.hd y))
                  have hln : X.length = K.N := WS.out.inv.tp.len
                  have hdl : K.hd y < K.N := K.hd_lt hyS
                  have HDL : Hid (K.hd y < X.length) := by unfold Hid; omega
                  have LAST := hide (WS.out.inv.last (by have := HI.out.2.2.1; omega) y j (Nat.le_refl _))
                  have c16 : Hid (∀ wr, Hid (Ws w wr K j M G B D L X T tag F md cur R A) → Calls Tryd.prog 16 #[.pointer (some ⟨B, 0, none⟩), .string ⟨#[104, 101, 97, 100, 101, 114]⟩, .int .i64 (y : Nat), .int .i64 0] wr fun e w' => e = .returned (.int .i64 (K.hd y : Nat)) ∧ Below wr.heap.size wr w') := fun wr h => wat16_hd HI.out.1 h.out.wd hyS
                  obtain ⟨W, hW⟩ : ∃ W, X.getD (K.hd y) 0 = W := ⟨_, rfl⟩
                  rw [hW] at c15' LAST
                  obtain ⟨hd, hhd⟩ : ∃ hd, K.hd y = hd := ⟨_, rfl⟩
                  rw [hhd] at hW hdl HDL c16
                  have HW := hide hW
                  obtain ⟨NN, hNN⟩ : ∃ NN, K.N = NN := ⟨_, rfl⟩
                  rw [hNN] at hdl
                  obtain ⟨kd, hkd⟩ : ∃ kd, kdW W = kd := ⟨_, rfl⟩
                  obtain ⟨gn, hgn⟩ : ∃ gn, genW W = gn := ⟨_, rfl⟩
                  rw [hkd, hgn] at c15' LAST
                  have c15 := hide c15'
                  clear hW hhd hkd hgn c15' hln
                  rw [hNN]
                  clear hNN
                  go_upto_region 31 with (first
                    | (go_at_call 16; with_reducible refine (c16.out _ WS).mono ?_; rintro e w12 ⟨rfl, hb⟩; replace WS := hide (WS.out.below hb); replace HQ := hide (words_below HQ.out hb); replace HF := hide (HF.out.below hb); clear hb l0; have hqc := word_cell HQ.out HDL.out HW.out)
                    | (go_at_call 15; with_reducible refine (c15.out _).mono ?_; rintro e w13 ⟨rfl, hb⟩; replace WS := hide (WS.out.below hb); replace HQ := hide (words_below HQ.out hb); replace HF := hide (HF.out.below hb); clear hb hqc))
                  have hR9 := Hh.hd_new w13 (kd : Nat) um ug ua (gn : Nat) us
                  have hb13 := alloc_below w13 (.cells #[.int .i64 (kd : Nat), .int .i64 um, .bool ug, .int .i64 ua, .int .i64 (gn : Nat), .int .i64 us] 48)
                  replace WS := hide (WS.out.below hb13)
                  replace HQ := hide (words_below HQ.out hb13)
                  replace HF := hide (HF.out.below hb13)
                  clear hb13
                  generalize w13.heap.size = R9 at *
                  generalize w13.alloc (.cells #[.int .i64 (kd : Nat), .int .i64 um, .bool ug, .int .i64 ua, .int .i64 (gn : Nat), .int .i64 us] 48) = w14 at *
                  obtain ⟨k0, _, _, _, k4, _⟩ := hR9.cells
                  have b7 := WS.out.wd.cells.2.2
                  have dy := WS.out.cnt.cell (s := y) (by rw [WS.out.inv.ml]; exact hyS)
                  obtain ⟨mv, hmv⟩ : ∃ mv, md.getD y 0 = mv := ⟨_, rfl⟩
                  rw [hmv] at dy LAST
                  have q17' := has_any HF.out HFL.out y
                  have LAST0 := LAST.out
                  obtain ⟨nb, hnb⟩ : ∃ nb, (if y ∈ F ∨ kd = 4 then 1 else 0) = nb := ⟨_, rfl⟩
                  rw [hnb] at LAST0
                  have LST := hide LAST0
                  have hS12 : K.S ≤ 12 := HI.out.2.2.2
                  clear hmv LAST LAST0 hR9 hdl HDL HW c15 c16
                  by_cases hm : y ∈ F
                  · as_aux_lemma =>
                    rw [if_pos (.inl hm)] at hnb
                    subst hnb
                    rw [decide_eq_true hm] at q17'
                    have q17 := hide q17'
                    have HN : Hid (1 = 1 + cntH R y 0) := rfl
                    have HNB : Hid (1 ≤ 1 ∧ (1 : Nat) = 1) := ⟨Nat.le_refl 1, rfl⟩
                    clear q17' hm
                    go_wp2_with (go_at_call 17; with_reducible refine Calls.mono q17.out ?_; rintro e w15 ⟨rfl, rfl⟩)
                    clear q17
                    go_loop [19, 20] (fun nn i => ∃ (N i' : Nat), i' ≤ j ∧ i = .int .i64 i' ∧ nn = .int .i64 N ∧ Hid (N = 1 + cntH R y i')) (fun _ i => j - (intOf i).toNat)
                    case atStart => exact ⟨_, 0, Nat.zero_le _, rfl, rfl, HN⟩
                    case round =>
                      clear HN
                      obtain ⟨N, i, hij, rfl, rfl, hN⟩ := hrel
                      by_cases hin : i < j
                      · have hin' : (i : Int) < (j : Int) := by omega
                        obtain ⟨z6, zI, zl⟩ := WS.out.had HI.out.1 hin
                        have qi := has_any zI zl y
                        have hN1 : N ≤ 20 := by
                          have h0 := hN.out
                          have h1 := (WS.out.inv.cnt y i (by omega)).1
                          have := HNB.out
                          omega
                        obtain ⟨hvi, hvie⟩ : ∃ hvi, (A i).hv = hvi := ⟨_, rfl⟩
                        rw [hvie] at z6 qi
                        clear hvie zI zl
                        by_cases hmi : y ∈ (R i).has
                        · rw [decide_eq_true hmi] at qi
                          have QI := hide qi
                          have hN2 : Hid (N + 1 = 1 + cntH R y (i + 1)) := by have h0 := hN.out; unfold Hid; unfold cntH; rw [if_pos hmi]; omega
                          clear qi hN hmi
                          go_wp2_with (go_at_call 17; with_reducible refine Calls.mono QI.out ?_; rintro e w16 ⟨rfl, rfl⟩)
                          go_round
                          case rel => exact ⟨_, i + 1, by omega, by go_num, by go_num, hN2⟩
                          case measure => simp [intOf]; omega
                        · rw [decide_eq_false hmi] at qi
                          have QI := hide qi
                          have hN2 : Hid (N = 1 + cntH R y (i + 1)) := by have h0 := hN.out; unfold Hid; unfold cntH; rw [if_neg hmi]; omega
                          clear qi hN hmi
                          go_wp2_with (go_at_call 17; with_reducible refine Calls.mono QI.out ?_; rintro e w16 ⟨rfl, rfl⟩)
                          go_round
                          case rel => exact ⟨_, i + 1, by omega, by go_num, by go_num, hN2⟩
                          case measure => simp [intOf]; omega
                      · have hie : i = j := by omega
                        subst hie
                        have hN9 : N ≤ 1 := by have h0 := hN.out; have h1 := LST.out.1; omega
                        have hN8 : ¬ (1 < (N : Int)) := by omega
                        have hN7 : decide (1 < (N : Int)) = false := decide_eq_false hN8
                        have HB : Hid (N = 1 → kd = 0 → gn = mv) := fun h1 h2 => LST.out.2 (by have h0 := hN.out; omega) h2
                        clear LST
                        by_cases hk0 : kd = 0
                        · have HN1 : N = 1 := by have := hN.out; have := HNB.out; omega
                          have hge : gn = mv := HB.out HN1 hk0
                          subst hge
                          subst hk0
                          clear HB
                          go_wp2
                          go_quiet (fail)
                          go_wp2
                          go_roundw
                          case rel => exact ⟨y + 1, by omega, by go_num, hide (WS.out.below (Hh.below_drewN (Below.refl _ _) _)), hide (words_below HQ.out (Hh.below_drewN (Below.refl _ _) _)), hide (HF.out.below (Hh.below_drewN (Below.refl _ _) _))⟩
                          case measure => simp [intOf]; omega
                        · have hk1 : ¬ ((kd : Int) = 0) := by omega
                          have hk2 : ((kd : Int) == 0) = false := by simpa using hk0
                          clear hk0
                          go_wp2
                          go_quiet (fail)
                          go_wp2
                          go_roundw
                          case rel => exact ⟨y + 1, by omega, by go_num, hide (WS.out.below (Hh.below_drewN (Below.refl _ _) _)), hide (words_below HQ.out (Hh.below_drewN (Below.refl _ _) _)), hide (HF.out.below (Hh.below_drewN (Below.refl _ _) _))⟩
                          case measure => simp [intOf]; omega
                  · by_cases h4 : kd = 4
                    · as_aux_lemma =>
                      rw [if_pos (.inr h4)] at hnb
                      subst hnb
                      subst h4
                      rw [decide_eq_false hm] at q17'
                      have q17 := hide q17'
                      have HN : Hid (1 = 1 + cntH R y 0) := rfl
                      have HNB : Hid (1 ≤ 1 ∧ (1 : Nat) = 1) := ⟨Nat.le_refl 1, rfl⟩
                      clear q17' hm
                      go_wp2_with (go_at_call 17; with_reducible refine Calls.mono q17.out ?_; rintro e w15 ⟨rfl, rfl⟩)
                      clear q17
                      go_loop [19, 20] (fun nn i => ∃ (N i' : Nat), i' ≤ j ∧ i = .int .i64 i' ∧ nn = .int .i64 N ∧ Hid (N = 1 + cntH R y i')) (fun _ i => j - (intOf i).toNat)
                      case atStart => exact ⟨_, 0, Nat.zero_le _, rfl, rfl, HN⟩
                      case round =>
                        clear HN
                        obtain ⟨N, i, hij, rfl, rfl, hN⟩ := hrel
                        by_cases hin : i < j
                        · have hin' : (i : Int) < (j : Int) := by omega
                          obtain ⟨z6, zI, zl⟩ := WS.out.had HI.out.1 hin
                          have qi := has_any zI zl y
                          have hN1 : N ≤ 20 := by
                            have h0 := hN.out
                            have h1 := (WS.out.inv.cnt y i (by omega)).1
                            have := HNB.out
                            omega
                          obtain ⟨hvi, hvie⟩ : ∃ hvi, (A i).hv = hvi := ⟨_, rfl⟩
                          rw [hvie] at z6 qi
                          clear hvie zI zl
                          by_cases hmi : y ∈ (R i).has
                          · rw [decide_eq_true hmi] at qi
                            have QI := hide qi
                            have hN2 : Hid (N + 1 = 1 + cntH R y (i + 1)) := by have h0 := hN.out; unfold Hid; unfold cntH; rw [if_pos hmi]; omega
                            clear qi hN hmi
                            go_wp2_with (go_at_call 17; with_reducible refine Calls.mono QI.out ?_; rintro e w16 ⟨rfl, rfl⟩)
                            go_round
                            case rel => exact ⟨_, i + 1, by omega, by go_num, by go_num, hN2⟩
                            case measure => simp [intOf]; omega
                          · rw [decide_eq_false hmi] at qi
                            have QI := hide qi
                            have hN2 : Hid (N = 1 + cntH R y (i + 1)) := by have h0 := hN.out; unfold Hid; unfold cntH; rw [if_neg hmi]; omega
                            clear qi hN hmi
                            go_wp2_with (go_at_call 17; with_reducible refine Calls.mono QI.out ?_; rintro e w16 ⟨rfl, rfl⟩)
                            go_round
                            case rel => exact ⟨_, i + 1, by omega, by go_num, by go_num, hN2⟩
                            case measure => simp [intOf]; omega
                        · have hie : i = j := by omega
                          subst hie
                          have hN9 : N ≤ 1 := by have h0 := hN.out; have h1 := LST.out.1; omega
                          have hN8 : ¬ (1 < (N : Int)) := by omega
                          have hN7 : decide (1 < (N : Int)) = false := decide_eq_false hN8
                          have HB : Hid (N = 1 → (4 : Nat) = 0 → gn = mv) := fun h1 h2 => LST.out.2 (by have h0 := hN.out; omega) h2
                          clear LST
                          go_wp2
                          go_quiet (fail)
                          go_wp2
                          go_roundw
                          case rel => exact ⟨y + 1, by omega, by go_num, hide (WS.out.below (Hh.below_drewN (Below.refl _ _) _)), hide (words_below HQ.out (Hh.below_drewN (Below.refl _ _) _)), hide (HF.out.below (Hh.below_drewN (Below.refl _ _) _))⟩
                          case measure => simp [intOf]; omega
                    · as_aux_lemma =>
                      rw [if_neg (fun h => h.elim hm h4)] at hnb
                      subst hnb
                      have h4' : ¬ ((kd : Int) = 4) := by omega
                      have h4'' : ((kd : Int) == 4) = false := beq_false_of_ne h4'
                      rw [decide_eq_false hm] at q17'
                      have q17 := hide q17'
                      have HN : Hid (0 = 0 + cntH R y 0) := rfl
                      have HNB : Hid (0 ≤ 1 ∧ (0 : Nat) = 0) := ⟨Nat.zero_le 1, rfl⟩
                      clear q17' hm h4
                      go_wp2_with (go_at_call 17; with_reducible refine Calls.mono q17.out ?_; rintro e w15 ⟨rfl, rfl⟩)
                      clear q17
                      go_loop [19, 20] (fun nn i => ∃ (N i' : Nat), i' ≤ j ∧ i = .int .i64 i' ∧ nn = .int .i64 N ∧ Hid (N = 0 + cntH R y i')) (fun _ i => j - (intOf i).toNat)
                      case atStart => exact ⟨_, 0, Nat.zero_le _, rfl, rfl, HN⟩
                      case round =>
                        clear HN
                        obtain ⟨N, i, hij, rfl, rfl, hN⟩ := hrel
                        by_cases hin : i < j
                        · have hin' : (i : Int) < (j : Int) := by omega
                          obtain ⟨z6, zI, zl⟩ := WS.out.had HI.out.1 hin
                          have qi := has_any zI zl y
                          have hN1 : N ≤ 20 := by
                            have h0 := hN.out
                            have h1 := (WS.out.inv.cnt y i (by omega)).1
                            have := HNB.out
                            omega
                          obtain ⟨hvi, hvie⟩ : ∃ hvi, (A i).hv = hvi := ⟨_, rfl⟩
                          rw [hvie] at z6 qi
                          clear hvie zI zl
                          by_cases hmi : y ∈ (R i).has
                          · rw [decide_eq_true hmi] at qi
                            have QI := hide qi
                            have hN2 : Hid (N + 1 = 0 + cntH R y (i + 1)) := by have h0 := hN.out; unfold Hid; unfold cntH; rw [if_pos hmi]; omega
                            clear qi hN hmi
                            go_wp2_with (go_at_call 17; with_reducible refine Calls.mono QI.out ?_; rintro e w16 ⟨rfl, rfl⟩)
                            go_round
                            case rel => exact ⟨_, i + 1, by omega, by go_num, by go_num, hN2⟩
                            case measure => simp [intOf]; omega
                          · rw [decide_eq_false hmi] at qi
                            have QI := hide qi
                            have hN2 : Hid (N = 0 + cntH R y (i + 1)) := by have h0 := hN.out; unfold Hid; unfold cntH; rw [if_neg hmi]; omega
                            clear qi hN hmi
                            go_wp2_with (go_at_call 17; with_reducible refine Calls.mono QI.out ?_; rintro e w16 ⟨rfl, rfl⟩)
                            go_round
                            case rel => exact ⟨_, i + 1, by omega, by go_num, by go_num, hN2⟩
                            case measure => simp [intOf]; omega
                        · have hie : i = j := by omega
                          subst hie
                          have hN9 : N ≤ 1 := by have h0 := hN.out; have h1 := LST.out.1; omega
                          have hN8 : ¬ (1 < (N : Int)) := by omega
                          have hN7 : decide (1 < (N : Int)) = false := decide_eq_false hN8
                          have HB : Hid (N = 1 → kd = 0 → gn = mv) := fun h1 h2 => LST.out.2 (by have h0 := hN.out; omega) h2
                          clear LST
                          by_cases hk0 : kd = 0
                          · by_cases HN1 : N = 1
                            · have hge : gn = mv := HB.out HN1 hk0
                              subst hge
                              subst hk0
                              clear HB
                              go_wp2
                              go_quiet (fail)
                              go_wp2
                              go_roundw
                              case rel => exact ⟨y + 1, by omega, by go_num, hide (WS.out.below (Hh.below_drewN (Below.refl _ _) _)), hide (words_below HQ.out (Hh.below_drewN (Below.refl _ _) _)), hide (HF.out.below (Hh.below_drewN (Below.refl _ _) _))⟩
                              case measure => simp [intOf]; omega
                            · have hN3 : ¬ ((N : Int) = 1) := by omega
                              have hN4 : ((N : Int) == 1) = false := beq_false_of_ne hN3
                              subst hk0
                              clear HB
                              by_cases hgm : gn = mv
                              · subst hgm
                                go_wp2
                                go_quiet (fail)
                                go_wp2
                                go_roundw
                                case rel => exact ⟨y + 1, by omega, by go_num, hide (WS.out.below (Hh.below_drewN (Below.refl _ _) _)), hide (words_below HQ.out (Hh.below_drewN (Below.refl _ _) _)), hide (HF.out.below (Hh.below_drewN (Below.refl _ _) _))⟩
                                case measure => simp [intOf]; omega
                              · have hgm' : ¬ ((gn : Int) = (mv : Int)) := by omega
                                have hgm2 : ((gn : Int) == (mv : Int)) = false := beq_false_of_ne hgm'
                                have hgm3 : ((gn : Int) != (mv : Int)) = true := bne_iff_ne.2 hgm'
                                clear hgm
                                go_wp2
                                go_quiet (fail)
                                go_wp2
                                go_roundw
                                case rel => exact ⟨y + 1, by omega, by go_num, hide (WS.out.below (Hh.below_drewN (Below.refl _ _) _)), hide (words_below HQ.out (Hh.below_drewN (Below.refl _ _) _)), hide (HF.out.below (Hh.below_drewN (Below.refl _ _) _))⟩
                                case measure => simp [intOf]; omega
                          · have hk1 : ¬ ((kd : Int) = 0) := by omega
                            have hk2 : ((kd : Int) == 0) = false := by simpa using hk0
                            clear hk0
                            go_wp2
                            go_quiet (fail)
                            go_wp2
                            go_roundw
                            case rel => exact ⟨y + 1, by omega, by go_num, hide (WS.out.below (Hh.below_drewN (Below.refl _ _) _)), hide (words_below HQ.out (Hh.below_drewN (Below.refl _ _) _)), hide (HF.out.below (Hh.below_drewN (Below.refl _ _) _))⟩
                            case measure => simp [intOf]; omega
                · have hyE : y = K.S := by omega
                  have hNb := HI.out.1.N_b
                  have hq2 : wr.cell? ⟨Q, 2, none⟩ = some (.int .u64 0) := word_cell (v := 0) HQ.out (by rw [WS.out.inv.tp.len]; omega) WS.out.inv.x2
                  have h2N : (2 : Int) < (K.N : Int) := by omega
                  subst hyE
                  go_wp2
                  go_ret
                  exact ⟨rfl, WS.out.bel⟩
  · have hmk := HMK.out
    go_simp
    clear hmk
    have hDm : IsMd (w4.alloc (.cells (madeCells #[.int .i64 0] K.S) 3)).drew w4.heap.size (List.replicate K.S 0) := by
      unfold IsMd
      rw [← md_new]
      exact new_obj w4 _
    have hDl := ST3.out.cfg.lt
    have bl2 : Below w4.heap.size w4 (w4.alloc (.cells (madeCells #[.int .i64 0] K.S) 3)).drew := (alloc_below w4 (.cells (madeCells #[.int .i64 0] K.S) 3)).drew
    refine hKK.out _ _ (HC.out _ bl2) (fun hS1 => ?_)
    (try simp only [Act.put, List.setIfInBounds_toArray, List.set_cons_zero, List.set_cons_succ])
    clear hKK KK bl
    generalize hDe : w4.heap.size = D at hDm hDl ⊢
    generalize (w4.alloc (.cells (madeCells #[.int .i64 0] K.S) 3)).drew = w5 at *
    refine wpAnyH_ready (rs := [2]) (by kernel_rfl) (by simp) (AllReadyH.cons (o := { dst := some 30, op := Go.Op.call { callee := Go.Callee.value (Go.Operand.func 9), args := #[Go.Operand.tmp 29], argTypes := #[23] }, type := 28, pos := "law.go:148", after := #[{ on := 1, ground := Go.Ground.data }], guard := none }) rfl (fun KK hKK => ?_) AllReadyH.nil)
    go_simp
    go_at_call 9
    with_reducible refine (C9.out _).mono ?_
    rintro e w6 ⟨M, G, rfl, hm, hM, hG, b⟩
    (try simp only [])
    have st := hide (st7_b (ST3.out.below bl2) hDm (by omega) hm hM hG b)
    have bl := seq_below bl2 b
    clear hm hM hG b bl2 hDm hDl hDe
    refine hKK.out _ _ (HC.out _ bl) (fun hS1 => ?_)
    (try simp only [Act.put, List.setIfInBounds_toArray, List.set_cons_zero, List.set_cons_succ])
    clear hKK KK
    have bl3 := seq_below bl (alloc_below w6 (.cells #[.int .i64 (K.S : Nat), .int .i64 K.a, .int .i64 (K.C : Nat), .int .i64 (K.D : Nat), .int .i64 K.g, .int .i64 K.k, .pointer (some ⟨M, 0, none⟩), .slice (some ⟨D, 0, none⟩) K.S K.S] 31))
    refine wpAnyH_ready (rs := [6]) (by kernel_rfl) (by simp) (AllReadyH.cons (o := { dst := some 34, op := Go.Op.build 31 #[(0, Go.Operand.tmp 28), (1, Go.Operand.tmp 30), (2, Go.Operand.tmp 33)], type := 31, pos := "law.go:148", after := #[{ on := 0, ground := Go.Ground.data }, { on := 2, ground := Go.Ground.data }, { on := 5, ground := Go.Ground.data }], guard := none }) rfl (fun KK hKK => ?_) AllReadyH.nil)
    go_simp
    refine hKK.out _ _ (HC.out _ bl) (fun hS1 => ?_)
    (try simp only [Act.put, List.setIfInBounds_toArray, List.set_cons_zero, List.set_cons_succ])
    clear hKK KK
    refine wpAnyH_ready (rs := [7]) (by kernel_rfl) (by simp) (AllReadyH.cons (o := { dst := some 35, op := Go.Op.box 31 (Go.Operand.tmp 34), type := 27, pos := "law.go:148", after := #[{ on := 6, ground := Go.Ground.data }], guard := none }) rfl (fun KK hKK => ?_) AllReadyH.nil)
    go_simp
    refine hKK.out _ _ (HC.out _ bl3) (fun hS1 => ?_)
    (try simp only [Act.put, List.setIfInBounds_toArray, List.set_cons_zero, List.set_cons_succ])
    clear hKK KK
    generalize w6.heap.size = B at *
    generalize w6.alloc (.cells #[.int .i64 (K.S : Nat), .int .i64 K.a, .int .i64 (K.C : Nat), .int .i64 (K.D : Nat), .int .i64 K.g, .int .i64 K.k, .pointer (some ⟨M, 0, none⟩), .slice (some ⟨D, 0, none⟩) K.S K.S] 31) = w7 at *
    refine wpAnyH_take (i := 8) (oi := { dst := some 7, op := Go.Op.assign (Go.Operand.tmp 35), type := 27, pos := "law.go:148", after := #[{ on := 7, ground := Go.Ground.data }, { on := 2, ground := Go.Ground.chain }, { on := 0, ground := Go.Ground.phase }, { on := 1, ground := Go.Ground.phase }, { on := 2, ground := Go.Ground.phase }, { on := 3, ground := Go.Ground.phase }, { on := 4, ground := Go.Ground.phase }, { on := 5, ground := Go.Ground.phase }, { on := 6, ground := Go.Ground.phase }, { on := 7, ground := Go.Ground.phase }], guard := none }) (v := .pointer (some ⟨B, 0, none⟩)) rfl (by kernel_rfl) (by kernel_rfl) (by kernel_rfl) (fun _ _ _ h => h) (Or.inl ⟨by rfl, fun w hSw => by (try dsimp only at hSw); go_simp⟩) hS1 ?_
    simp only [Act.put, List.setIfInBounds_toArray, List.set_cons_zero, List.set_cons_succ]
    refine wpAnyH_done (by kernel_rfl) ?_ _
    clear hS1 HC bl HMK C9 ST3
    have hz' : ¬ ((6 : Int) < (nz : Int)) := by omega
    have b6 := st.out.wd.cells.2.1
    have c10 := hide (awake_any _ st.out.wt)
    clear bl3
    go_upto_region 6 with (go_at_call 10; refine Calls.mono c10.out ?_; rintro e w8 ⟨rfl, hb⟩)
    replace st := hide (st.out.below hb)
    clear hb b6 c10 hz'
    obtain ⟨i0, hi0, hz0, hz1, hz2⟩ := info_parts Tryd.info41
    go_wp2_with (at_make; refine wpList_make_full _ rfl _ _ 33 rfl w8.heap.size 41 i0 (.agg #[.slice none 0 0, .bool false, .bool false, .int .u8 0, .int .u8 0, .int .u64 0, .slice none 0 0, .pointer none, .pointer none, .int .i64 0]) 10 Tryd.underlying33 hi0 hz0 hz1 .i64 .i64 nz nz nz rfl rfl rfl rfl ?c1 ?c2 (Nat.le_refl _) ?_)
    case c1 => rw [hz2]; omega
    case c2 => unfold maxLen; omega
    intro w9 hown hgrow
    have hrow := made_row (L := w8.heap.size) (n := nz) (by exact hown)
    have st9 := st.out.below (Mm.of_grown hgrow)
    have hL8 := st.out.bel.size
    have hK8 := st.out.cfg.lt
    have ws0 := ws_new (n := nz) HK.out.1 HK.out.2.1 st9.mem st9.wt hrow st9.wd st9.cnt st9.bel st9.cfg (fun b hb => by
      have h1 := st.out.hi
      simp only [List.mem_cons, List.not_mem_nil, or_false] at hb h1
      rcases hb with h | h | h | h | h
      · exact (h1 b (.inl h)).1
      · exact (h1 b (.inr (.inl h))).1
      · exact (h1 b (.inr (.inr (.inl h)))).1
      · exact (h1 b (.inr (.inr (.inr h)))).1
      · omega) (by
      have h1 := st.out.hi
      have h2 := st.out.ne
      have e1 := (h1 M (by simp)).2
      have e2 := (h1 G (by simp)).2
      have e3 := (h1 B (by simp)).2
      have e4 := (h1 D (by simp)).2
      simp only [List.nodup_cons, List.mem_cons, List.not_mem_nil, or_false, not_or, List.nodup_nil, and_true, not_false_eq_true] at h2 ⊢
      omega)
    generalize w8.heap.size = L at *
    have wp : Wp w w9 K nz M G B D L 0 := ⟨_, _, _, _, _, _, _, _, Nat.le_refl _, ⟨Int.le_refl _, Int.le_refl _⟩, ws0⟩
    have HI := hide HK.out
    clear ws0 st9 hrow hown hgrow st hi0 hz0 hz1 hz2 hL8 hK8 HK
    go_wp2
    go_loopw [9] (fun i wr => ∃ j : Nat, j ≤ nz ∧ i = .int .i64 j ∧ Wp w wr K nz M G B D L 0) (fun i _ => nz - (intOf i).toNat)
    case atStart => exact ⟨0, Nat.zero_le _, rfl, wp⟩
    case round =>
      clear wp
      obtain ⟨j, hj, rfl, wp⟩ := hrel
      by_cases hjn : j < nz
      · have hjn' : (j : Int) < (nz : Int) := by omega
        obtain ⟨b, off, za, zk, zc, hwad, hbl, hq, hk1, hk2, hwk⟩ := HC0.out j hjn
        have q := (wp.bel.cell (p := ⟨b, off + j, none⟩) hbl).trans hq
        obtain ⟨⟨v, cL⟩, fL, wp2⟩ := wp.give hjn hwk ⟨hk1, hk2⟩
        have WP2 := hide wp2
        subst hwad
        generalize zk.length = zn at *
        clear wp wp2 hwk hq hbl hk1 hk2
        go_wp2
        go_roundw
        case rel => exact ⟨j + 1, by omega, by go_num, WP2.out⟩
        case measure => simp [intOf]; omega
      · have hjn' : j = nz := by omega
        subst hjn'
        clear hjn
        go_wp2
        go_loopw [10] (fun i wr => ∃ p : Nat, p ≤ np ∧ p ≤ 500 ∧ i = .int .i64 p ∧ Wp w wr K j M G B D L p) (fun i _ => 500 - (intOf i).toNat)
        case atStart => exact ⟨0, Nat.zero_le _, by omega, rfl, wp⟩
        case round =>
          clear wp
          obtain ⟨p, hp, hp5, rfl, wp⟩ := hrel
          by_cases hpn : p < np
          · have hpn' : (p : Int) < (np : Int) := by omega
            by_cases hp6 : p < 500
            · have hp6' : (p : Int) < 500 := by omega
              obtain ⟨b, off, hpad, hbl, hq⟩ := HY0.out p hpn
              have q := (wp.bel.cell (p := ⟨b, off + p, none⟩) hbl).trans hq
              subst hpad
              clear hq hbl
              generalize Y p = x at q
              by_cases hx0 : 0 ≤ x
              · by_cases hxn : x < (j : Int)
                · obtain ⟨i, rfl⟩ : ∃ i : Nat, x = (i : Int) := ⟨x.toNat, by omega⟩
                  have c11 := hide (wp.turn HI.out.1 HI.out.2.2.1 (by omega) (i := i) (by omega))
                  clear wp
                  go_upto_region 17 with (go_at_call 11; with_reducible refine Calls.mono c11.out ?_; rintro e w10 ⟨rfl, wp⟩)
                  clear q c11 hx0 hxn
                  go_wp2
                  as_aux_lemma =>
                    go_loopw [12] (fun ia wr => ∃ a : Nat, a ≤ j ∧ ia = .int .i64 a ∧ Wp w wr K j M G B D L (p + 1)) (fun ia _ => j - (intOf ia).toNat)
                    case atStart => exact ⟨0, Nat.zero_le _, rfl, wp⟩
                    case round =>
                      clear wp
                      obtain ⟨a, ha, rfl, wp⟩ := hrel
                      by_cases haj : a < j
                      · have haj' : (a : Int) < (j : Int) := by omega
                        go_wp2
                        go_loopw [13] (fun ib wr => ∃ b : Nat, b ≤ a ∧ ib = .int .i64 b ∧ Wp w wr K j M G B D L (p + 1)) (fun ib _ => a - (intOf ib).toNat)
                        case atStart => exact ⟨0, Nat.zero_le _, rfl, wp⟩
                        case round =>
                          clear wp
                          obtain ⟨b, hb, rfl, wp⟩ := hrel
                          by_cases hba : b < a
                          · have hba' : (b : Int) < (a : Int) := by omega
                            have hbj : (b : Int) < (j : Int) := by omega
                            go_upto_region 23 with fail
                            replace wp := wp.drew
                            obtain ⟨hva, hvb, q1, q2, c12⟩ := wp.two HI.out.1 haj hba
                            have C12 := hide c12
                            clear c12
                            go_region_held (fun wr => wr.cell? ⟨L, a * 10 + 6, none⟩ = some hva ∧ wr.cell? ⟨L, b * 10 + 6, none⟩ = some hvb) (with_reducible exact ⟨q1, q2⟩) (first | (go_at_call 12; with_reducible refine Calls.mono C12.out ?_; rintro e w11 ⟨rfl, rfl⟩))
                            go_wp2
                            go_roundw
                            case rel => exact ⟨b + 1, by omega, by go_num, wp⟩
                            case measure => simp [intOf]; omega
                          · have hbe : b = a := by omega
                            subst hbe
                            go_wp2
                            go_roundw
                            case rel => exact ⟨b + 1, by omega, by go_num, wp⟩
                            case measure => simp [intOf]; omega
                      · have hae : a = j := by omega
                        subst hae
                        go_wp2
                        go_roundw
                        case rel => exact ⟨p + 1, by omega, by omega, by go_num, wp⟩
                        case measure => simp [intOf]; omega
                · replace wp := wp.more
                  go_upto_region 17 with fail
                  clear q hx0 hxn
                  go_wp2
                  as_aux_lemma =>
                    go_loopw [12] (fun ia wr => ∃ a : Nat, a ≤ j ∧ ia = .int .i64 a ∧ Wp w wr K j M G B D L (p + 1)) (fun ia _ => j - (intOf ia).toNat)
                    case atStart => exact ⟨0, Nat.zero_le _, rfl, wp⟩
                    case round =>
                      clear wp
                      obtain ⟨a, ha, rfl, wp⟩ := hrel
                      by_cases haj : a < j
                      · have haj' : (a : Int) < (j : Int) := by omega
                        go_wp2
                        go_loopw [13] (fun ib wr => ∃ b : Nat, b ≤ a ∧ ib = .int .i64 b ∧ Wp w wr K j M G B D L (p + 1)) (fun ib _ => a - (intOf ib).toNat)
                        case atStart => exact ⟨0, Nat.zero_le _, rfl, wp⟩
                        case round =>
                          clear wp
                          obtain ⟨b, hb, rfl, wp⟩ := hrel
                          by_cases hba : b < a
                          · have hba' : (b : Int) < (a : Int) := by omega
                            have hbj : (b : Int) < (j : Int) := by omega
                            go_upto_region 23 with fail
                            replace wp := wp.drew
                            obtain ⟨hva, hvb, q1, q2, c12⟩ := wp.two HI.out.1 haj hba
                            have C12 := hide c12
                            clear c12
                            go_region_held (fun wr => wr.cell? ⟨L, a * 10 + 6, none⟩ = some hva ∧ wr.cell? ⟨L, b * 10 + 6, none⟩ = some hvb) (with_reducible exact ⟨q1, q2⟩) (first | (go_at_call 12; with_reducible refine Calls.mono C12.out ?_; rintro e w11 ⟨rfl, rfl⟩))
                            go_wp2
                            go_roundw
                            case rel => exact ⟨b + 1, by omega, by go_num, wp⟩
                            case measure => simp [intOf]; omega
                          · have hbe : b = a := by omega
                            subst hbe
                            go_wp2
                            go_roundw
                            case rel => exact ⟨b + 1, by omega, by go_num, wp⟩
                            case measure => simp [intOf]; omega
                      · have hae : a = j := by omega
                        subst hae
                        go_wp2
                        go_roundw
                        case rel => exact ⟨p + 1, by omega, by omega, by go_num, wp⟩
                        case measure => simp [intOf]; omega
              · replace wp := wp.more
                go_upto_region 17 with fail
                clear q hx0
                go_wp2
                as_aux_lemma =>
                  go_loopw [12] (fun ia wr => ∃ a : Nat, a ≤ j ∧ ia = .int .i64 a ∧ Wp w wr K j M G B D L (p + 1)) (fun ia _ => j - (intOf ia).toNat)
                  case atStart => exact ⟨0, Nat.zero_le _, rfl, wp⟩
                  case round =>
                    clear wp
                    obtain ⟨a, ha, rfl, wp⟩ := hrel
                    by_cases haj : a < j
                    · have haj' : (a : Int) < (j : Int) := by omega
                      go_wp2
                      go_loopw [13] (fun ib wr => ∃ b : Nat, b ≤ a ∧ ib = .int .i64 b ∧ Wp w wr K j M G B D L (p + 1)) (fun ib _ => a - (intOf ib).toNat)
                      case atStart => exact ⟨0, Nat.zero_le _, rfl, wp⟩
                      case round =>
                        clear wp
                        obtain ⟨b, hb, rfl, wp⟩ := hrel
                        by_cases hba : b < a
                        · have hba' : (b : Int) < (a : Int) := by omega
                          have hbj : (b : Int) < (j : Int) := by omega
                          go_upto_region 23 with fail
                          replace wp := wp.drew
                          obtain ⟨hva, hvb, q1, q2, c12⟩ := wp.two HI.out.1 haj hba
                          have C12 := hide c12
                          clear c12
                          go_region_held (fun wr => wr.cell? ⟨L, a * 10 + 6, none⟩ = some hva ∧ wr.cell? ⟨L, b * 10 + 6, none⟩ = some hvb) (with_reducible exact ⟨q1, q2⟩) (first | (go_at_call 12; with_reducible refine Calls.mono C12.out ?_; rintro e w11 ⟨rfl, rfl⟩))
                          go_wp2
                          go_roundw
                          case rel => exact ⟨b + 1, by omega, by go_num, wp⟩
                          case measure => simp [intOf]; omega
                        · have hbe : b = a := by omega
                          subst hbe
                          go_wp2
                          go_roundw
                          case rel => exact ⟨b + 1, by omega, by go_num, wp⟩
                          case measure => simp [intOf]; omega
                    · have hae : a = j := by omega
                      subst hae
                      go_wp2
                      go_roundw
                      case rel => exact ⟨p + 1, by omega, by omega, by go_num, wp⟩
                      case measure => simp [intOf]; omega
            · have hp6' : ¬ ((p : Int) < 500) := by omega
              as_aux_lemma =>
                obtain ⟨X, T, tag, F, md, cur, R, A, htg, hT, ws⟩ := wp
                have b6 := ws.wd.cells.2.1
                have c13 := hide (wordsX ws.mem ws.inv.tp.len (by have := HI.out.1.N_b; omega))
                have HX64 := hide ws.mem.fits
                obtain ⟨l0, l1, l2, l3, l4, l5⟩ := ws.cells
                have WS := hide ws
                clear ws htg hT
                go_upto_region 26 with (go_at_call 13; refine Calls.mono c13.out ?_; rintro e w10 ⟨Q, rfl, hq, hQ, hb⟩; replace WS := hide (WS.out.below hb); clear l0 l1 l2 l3 l4 l5 b6 hQ hb)
                obtain ⟨l0, l1, l2, l3, l4, l5⟩ := WS.out.cells
                have c14 := hide (rlist_Y HI.out.1 hq WS.out.inv.tp HX64.out)
                have HQ := hide hq
                clear hq c13
                go_upto_region 27 with (go_at_call 14; refine Calls.mono c14.out ?_; rintro e w11 ⟨fv, rfl, hI, hfv, hb⟩; replace WS := hide (WS.out.below hb); replace HQ := hide (words_below HQ.out hb); clear l0 l1 l2 l3 l4 l5 hfv hb)
                clear c14
                have hFl : F.length ≤ 65536 := by
                  have h1 := nodup_len K.S F WS.out.inv.tp.nd WS.out.inv.tp.ch.lt
                  have := HI.out.2.2.2
                  omega
                have HFL := hide hFl
                clear hFl
                go_wp2
                go_loopw [16] (fun x wr => ∃ y : Nat, y ≤ K.S ∧ x = .int .i64 y ∧ Hid (Ws w wr K j M G B D L X T tag F md cur R A) ∧ Hid (IsWords wr Q X) ∧ Hid (IsI wr fv F)) (fun x _ => K.S - (intOf x).toNat)
                case atStart => exact ⟨0, Nat.zero_le _, rfl, WS, HQ, hI⟩
                case round =>
                  clear WS HQ hI
                  obtain ⟨y, hy, rfl, WS, HQ, HF⟩ := hrel
                  have l0 := WS.out.cells.1
                  by_cases hyS : y < K.S
                  · have hyS' : (y : Int) < (K.S : Int) := by omega
                    obtain ⟨um, ug, ua, us, uz, c15'⟩ := unp_all (HX64.out (K.hd y))
                    have hln : X.length = K.N := WS.out.inv.tp.len
                    have hdl : K.hd y < K.N := K.hd_lt hyS
                    have HDL : Hid (K.hd y < X.length) := by unfold Hid; omega
                    have LAST := hide (WS.out.inv.last (by have := HI.out.2.2.1; omega) y j (Nat.le_refl _))
                    have c16 : Hid (∀ wr, Hid (Ws w wr K j M G B D L X T tag F md cur R A) → Calls Tryd.prog 16 #[.pointer (some ⟨B, 0, none⟩), .string ⟨#[104, 101, 97, 100, 101, 114]⟩, .int .i64 (y : Nat), .int .i64 0] wr fun e w' => e = .returned (.int .i64 (K.hd y : Nat)) ∧ Below wr.heap.size wr w') := fun wr h => wat16_hd HI.out.1 h.out.wd hyS
                    obtain ⟨W, hW⟩ : ∃ W, X.getD (K.hd y) 0 = W := ⟨_, rfl⟩
                    rw [hW] at c15' LAST
                    obtain ⟨hd, hhd⟩ : ∃ hd, K.hd y = hd := ⟨_, rfl⟩
                    rw [hhd] at hW hdl HDL c16
                    have HW := hide hW
                    obtain ⟨NN, hNN⟩ : ∃ NN, K.N = NN := ⟨_, rfl⟩
                    rw [hNN] at hdl
                    obtain ⟨kd, hkd⟩ : ∃ kd, kdW W = kd := ⟨_, rfl⟩
                    obtain ⟨gn, hgn⟩ : ∃ gn, genW W = gn := ⟨_, rfl⟩
                    rw [hkd, hgn] at c15' LAST
                    have c15 := hide c15'
                    clear hW hhd hkd hgn c15' hln
                    rw [hNN]
                    clear hNN
                    go_upto_region 31 with (first
                      | (go_at_call 16; with_reducible refine (c16.out _ WS).mono ?_; rintro e w12 ⟨rfl, hb⟩; replace WS := hide (WS.out.below hb); replace HQ := hide (words_below HQ.out hb); replace HF := hide (HF.out.below hb); clear hb l0; have hqc := word_cell HQ.out HDL.out HW.out)
                      | (go_at_call 15; with_reducible refine (c15.out _).mono ?_; rintro e w13 ⟨rfl, hb⟩; replace WS := hide (WS.out.below hb); replace HQ := hide (words_below HQ.out hb); replace HF := hide (HF.out.below hb); clear hb hqc))
                    have hR9 := Hh.hd_new w13 (kd : Nat) um ug ua (gn : Nat) us
                    have hb13 := alloc_below w13 (.cells #[.int .i64 (kd : Nat), .int .i64 um, .bool ug, .int .i64 ua, .int .i64 (gn : Nat), .int .i64 us] 48)
                    replace WS := hide (WS.out.below hb13)
                    replace HQ := hide (words_below HQ.out hb13)
                    replace HF := hide (HF.out.below hb13)
                    clear hb13
                    generalize w13.heap.size = R9 at *
                    generalize w13.alloc (.cells #[.int .i64 (kd : Nat), .int .i64 um, .bool ug, .int .i64 ua, .int .i64 (gn : Nat), .int .i64 us] 48) = w14 at *
                    obtain ⟨k0, _, _, _, k4, _⟩ := hR9.cells
                    have b7 := WS.out.wd.cells.2.2
                    have dy := WS.out.cnt.cell (s := y) (by rw [WS.out.inv.ml]; exact hyS)
                    obtain ⟨mv, hmv⟩ : ∃ mv, md.getD y 0 = mv := ⟨_, rfl⟩
                    rw [hmv] at dy LAST
                    have q17' := has_any HF.out HFL.out y
                    have LAST0 := LAST.out
                    obtain ⟨nb, hnb⟩ : ∃ nb, (if y ∈ F ∨ kd = 4 then 1 else 0) = nb := ⟨_, rfl⟩
                    rw [hnb] at LAST0
                    have LST := hide LAST0
                    have hS12 : K.S ≤ 12 := HI.out.2.2.2
                    clear hmv LAST LAST0 hR9 hdl HDL HW c15 c16
                    by_cases hm : y ∈ F
                    · as_aux_lemma =>
                      rw [if_pos (.inl hm)] at hnb
                      subst hnb
                      rw [decide_eq_true hm] at q17'
                      have q17 := hide q17'
                      have HN : Hid (1 = 1 + cntH R y 0) := rfl
                      have HNB : Hid (1 ≤ 1 ∧ (1 : Nat) = 1) := ⟨Nat.le_refl 1, rfl⟩
                      clear q17' hm
                      go_wp2_with (go_at_call 17; with_reducible refine Calls.mono q17.out ?_; rintro e w15 ⟨rfl, rfl⟩)
                      clear q17
                      go_loop [19, 20] (fun nn i => ∃ (N i' : Nat), i' ≤ j ∧ i = .int .i64 i' ∧ nn = .int .i64 N ∧ Hid (N = 1 + cntH R y i')) (fun _ i => j - (intOf i).toNat)
                      case atStart => exact ⟨_, 0, Nat.zero_le _, rfl, rfl, HN⟩
                      case round =>
                        clear HN
                        obtain ⟨N, i, hij, rfl, rfl, hN⟩ := hrel
                        by_cases hin : i < j
                        · have hin' : (i : Int) < (j : Int) := by omega
                          obtain ⟨z6, zI, zl⟩ := WS.out.had HI.out.1 hin
                          have qi := has_any zI zl y
                          have hN1 : N ≤ 20 := by
                            have h0 := hN.out
                            have h1 := (WS.out.inv.cnt y i (by omega)).1
                            have := HNB.out
                            omega
                          obtain ⟨hvi, hvie⟩ : ∃ hvi, (A i).hv = hvi := ⟨_, rfl⟩
                          rw [hvie] at z6 qi
                          clear hvie zI zl
                          by_cases hmi : y ∈ (R i).has
                          · rw [decide_eq_true hmi] at qi
                            have QI := hide qi
                            have hN2 : Hid (N + 1 = 1 + cntH R y (i + 1)) := by have h0 := hN.out; unfold Hid; unfold cntH; rw [if_pos hmi]; omega
                            clear qi hN hmi
                            go_wp2_with (go_at_call 17; with_reducible refine Calls.mono QI.out ?_; rintro e w16 ⟨rfl, rfl⟩)
                            go_round
                            case rel => exact ⟨_, i + 1, by omega, by go_num, by go_num, hN2⟩
                            case measure => simp [intOf]; omega
                          · rw [decide_eq_false hmi] at qi
                            have QI := hide qi
                            have hN2 : Hid (N = 1 + cntH R y (i + 1)) := by have h0 := hN.out; unfold Hid; unfold cntH; rw [if_neg hmi]; omega
                            clear qi hN hmi
                            go_wp2_with (go_at_call 17; with_reducible refine Calls.mono QI.out ?_; rintro e w16 ⟨rfl, rfl⟩)
                            go_round
                            case rel => exact ⟨_, i + 1, by omega, by go_num, by go_num, hN2⟩
                            case measure => simp [intOf]; omega
                        · have hie : i = j := by omega
                          subst hie
                          have hN9 : N ≤ 1 := by have h0 := hN.out; have h1 := LST.out.1; omega
                          have hN8 : ¬ (1 < (N : Int)) := by omega
                          have hN7 : decide (1 < (N : Int)) = false := decide_eq_false hN8
                          have HB : Hid (N = 1 → kd = 0 → gn = mv) := fun h1 h2 => LST.out.2 (by have h0 := hN.out; omega) h2
                          clear LST
                          by_cases hk0 : kd = 0
                          · have HN1 : N = 1 := by have := hN.out; have := HNB.out; omega
                            have hge : gn = mv := HB.out HN1 hk0
                            subst hge
                            subst hk0
                            clear HB
                            go_wp2
                            go_quiet (fail)
                            go_wp2
                            go_roundw
                            case rel => exact ⟨y + 1, by omega, by go_num, hide (WS.out.below (Hh.below_drewN (Below.refl _ _) _)), hide (words_below HQ.out (Hh.below_drewN (Below.refl _ _) _)), hide (HF.out.below (Hh.below_drewN (Below.refl _ _) _))⟩
                            case measure => simp [intOf]; omega
                          · have hk1 : ¬ ((kd : Int) = 0) := by omega
                            have hk2 : ((kd : Int) == 0) = false := by simpa using hk0
                            clear hk0
                            go_wp2
                            go_quiet (fail)
                            go_wp2
                            go_roundw
                            case rel => exact ⟨y + 1, by omega, by go_num, hide (WS.out.below (Hh.below_drewN (Below.refl _ _) _)), hide (words_below HQ.out (Hh.below_drewN (Below.refl _ _) _)), hide (HF.out.below (Hh.below_drewN (Below.refl _ _) _))⟩
                            case measure => simp [intOf]; omega
                    · by_cases h4 : kd = 4
                      · as_aux_lemma =>
                        rw [if_pos (.inr h4)] at hnb
                        subst hnb
                        subst h4
                        rw [decide_eq_false hm] at q17'
                        have q17 := hide q17'
                        have HN : Hid (1 = 1 + cntH R y 0) := rfl
                        have HNB : Hid (1 ≤ 1 ∧ (1 : Nat) = 1) := ⟨Nat.le_refl 1, rfl⟩
                        clear q17' hm
                        go_wp2_with (go_at_call 17; with_reducible refine Calls.mono q17.out ?_; rintro e w15 ⟨rfl, rfl⟩)
                        clear q17
                        go_loop [19, 20] (fun nn i => ∃ (N i' : Nat), i' ≤ j ∧ i = .int .i64 i' ∧ nn = .int .i64 N ∧ Hid (N = 1 + cntH R y i')) (fun _ i => j - (intOf i).toNat)
                        case atStart => exact ⟨_, 0, Nat.zero_le _, rfl, rfl, HN⟩
                        case round =>
                          clear HN
                          obtain ⟨N, i, hij, rfl, rfl, hN⟩ := hrel
                          by_cases hin : i < j
                          · have hin' : (i : Int) < (j : Int) := by omega
                            obtain ⟨z6, zI, zl⟩ := WS.out.had HI.out.1 hin
                            have qi := has_any zI zl y
                            have hN1 : N ≤ 20 := by
                              have h0 := hN.out
                              have h1 := (WS.out.inv.cnt y i (by omega)).1
                              have := HNB.out
                              omega
                            obtain ⟨hvi, hvie⟩ : ∃ hvi, (A i).hv = hvi := ⟨_, rfl⟩
                            rw [hvie] at z6 qi
                            clear hvie zI zl
                            by_cases hmi : y ∈ (R i).has
                            · rw [decide_eq_true hmi] at qi
                              have QI := hide qi
                              have hN2 : Hid (N + 1 = 1 + cntH R y (i + 1)) := by have h0 := hN.out; unfold Hid; unfold cntH; rw [if_pos hmi]; omega
                              clear qi hN hmi
                              go_wp2_with (go_at_call 17; with_reducible refine Calls.mono QI.out ?_; rintro e w16 ⟨rfl, rfl⟩)
                              go_round
                              case rel => exact ⟨_, i + 1, by omega, by go_num, by go_num, hN2⟩
                              case measure => simp [intOf]; omega
                            · rw [decide_eq_false hmi] at qi
                              have QI := hide qi
                              have hN2 : Hid (N = 1 + cntH R y (i + 1)) := by have h0 := hN.out; unfold Hid; unfold cntH; rw [if_neg hmi]; omega
                              clear qi hN hmi
                              go_wp2_with (go_at_call 17; with_reducible refine Calls.mono QI.out ?_; rintro e w16 ⟨rfl, rfl⟩)
                              go_round
                              case rel => exact ⟨_, i + 1, by omega, by go_num, by go_num, hN2⟩
                              case measure => simp [intOf]; omega
                          · have hie : i = j := by omega
                            subst hie
                            have hN9 : N ≤ 1 := by have h0 := hN.out; have h1 := LST.out.1; omega
                            have hN8 : ¬ (1 < (N : Int)) := by omega
                            have hN7 : decide (1 < (N : Int)) = false := decide_eq_false hN8
                            have HB : Hid (N = 1 → (4 : Nat) = 0 → gn = mv) := fun h1 h2 => LST.out.2 (by have h0 := hN.out; omega) h2
                            clear LST
                            go_wp2
                            go_quiet (fail)
                            go_wp2
                            go_roundw
                            case rel => exact ⟨y + 1, by omega, by go_num, hide (WS.out.below (Hh.below_drewN (Below.refl _ _) _)), hide (words_below HQ.out (Hh.below_drewN (Below.refl _ _) _)), hide (HF.out.below (Hh.below_drewN (Below.refl _ _) _))⟩
                            case measure => simp [intOf]; omega
                      · as_aux_lemma =>
                        rw [if_neg (fun h => h.elim hm h4)] at hnb
                        subst hnb
                        have h4' : ¬ ((kd : Int) = 4) := by omega
                        have h4'' : ((kd : Int) == 4) = false := beq_false_of_ne h4'
                        rw [decide_eq_false hm] at q17'
                        have q17 := hide q17'
                        have HN : Hid (0 = 0 + cntH R y 0) := rfl
                        have HNB : Hid (0 ≤ 1 ∧ (0 : Nat) = 0) := ⟨Nat.zero_le 1, rfl⟩
                        clear q17' hm h4
                        go_wp2_with (go_at_call 17; with_reducible refine Calls.mono q17.out ?_; rintro e w15 ⟨rfl, rfl⟩)
                        clear q17
                        go_loop [19, 20] (fun nn i => ∃ (N i' : Nat), i' ≤ j ∧ i = .int .i64 i' ∧ nn = .int .i64 N ∧ Hid (N = 0 + cntH R y i')) (fun _ i => j - (intOf i).toNat)
                        case atStart => exact ⟨_, 0, Nat.zero_le _, rfl, rfl, HN⟩
                        case round =>
                          clear HN
                          obtain ⟨N, i, hij, rfl, rfl, hN⟩ := hrel
                          by_cases hin : i < j
                          · have hin' : (i : Int) < (j : Int) := by omega
                            obtain ⟨z6, zI, zl⟩ := WS.out.had HI.out.1 hin
                            have qi := has_any zI zl y
                            have hN1 : N ≤ 20 := by
                              have h0 := hN.out
                              have h1 := (WS.out.inv.cnt y i (by omega)).1
                              have := HNB.out
                              omega
                            obtain ⟨hvi, hvie⟩ : ∃ hvi, (A i).hv = hvi := ⟨_, rfl⟩
                            rw [hvie] at z6 qi
                            clear hvie zI zl
                            by_cases hmi : y ∈ (R i).has
                            · rw [decide_eq_true hmi] at qi
                              have QI := hide qi
                              have hN2 : Hid (N + 1 = 0 + cntH R y (i + 1)) := by have h0 := hN.out; unfold Hid; unfold cntH; rw [if_pos hmi]; omega
                              clear qi hN hmi
                              go_wp2_with (go_at_call 17; with_reducible refine Calls.mono QI.out ?_; rintro e w16 ⟨rfl, rfl⟩)
                              go_round
                              case rel => exact ⟨_, i + 1, by omega, by go_num, by go_num, hN2⟩
                              case measure => simp [intOf]; omega
                            · rw [decide_eq_false hmi] at qi
                              have QI := hide qi
                              have hN2 : Hid (N = 0 + cntH R y (i + 1)) := by have h0 := hN.out; unfold Hid; unfold cntH; rw [if_neg hmi]; omega
                              clear qi hN hmi
                              go_wp2_with (go_at_call 17; with_reducible refine Calls.mono QI.out ?_; rintro e w16 ⟨rfl, rfl⟩)
                              go_round
                              case rel => exact ⟨_, i + 1, by omega, by go_num, by go_num, hN2⟩
                              case measure => simp [intOf]; omega
                          · have hie : i = j := by omega
                            subst hie
                            have hN9 : N ≤ 1 := by have h0 := hN.out; have h1 := LST.out.1; omega
                            have hN8 : ¬ (1 < (N : Int)) := by omega
                            have hN7 : decide (1 < (N : Int)) = false := decide_eq_false hN8
                            have HB : Hid (N = 1 → kd = 0 → gn = mv) := fun h1 h2 => LST.out.2 (by have h0 := hN.out; omega) h2
                            clear LST
                            by_cases hk0 : kd = 0
                            · by_cases HN1 : N = 1
                              · have hge : gn = mv := HB.out HN1 hk0
                                subst hge
                                subst hk0
                                clear HB
                                go_wp2
                                go_quiet (fail)
                                go_wp2
                                go_roundw
                                case rel => exact ⟨y + 1, by omega, by go_num, hide (WS.out.below (Hh.below_drewN (Below.refl _ _) _)), hide (words_below HQ.out (Hh.below_drewN (Below.refl _ _) _)), hide (HF.out.below (Hh.below_drewN (Below.refl _ _) _))⟩
                                case measure => simp [intOf]; omega
                              · have hN3 : ¬ ((N : Int) = 1) := by omega
                                have hN4 : ((N : Int) == 1) = false := beq_false_of_ne hN3
                                subst hk0
                                clear HB
                                by_cases hgm : gn = mv
                                · subst hgm
                                  go_wp2
                                  go_quiet (fail)
                                  go_wp2
                                  go_roundw
                                  case rel => exact ⟨y + 1, by omega, by go_num, hide (WS.out.below (Hh.below_drewN (Below.refl _ _) _)), hide (words_below HQ.out (Hh.below_drewN (Below.refl _ _) _)), hide (HF.out.below (Hh.below_drewN (Below.refl _ _) _))⟩
                                  case measure => simp [intOf]; omega
                                · have hgm' : ¬ ((gn : Int) = (mv : Int)) := by omega
                                  have hgm2 : ((gn : Int) == (mv : Int)) = false := beq_false_of_ne hgm'
                                  have hgm3 : ((gn : Int) != (mv : Int)) = true := bne_iff_ne.2 hgm'
                                  clear hgm
                                  go_wp2
                                  go_quiet (fail)
                                  go_wp2
                                  go_roundw
                                  case rel => exact ⟨y + 1, by omega, by go_num, hide (WS.out.below (Hh.below_drewN (Below.refl _ _) _)), hide (words_below HQ.out (Hh.below_drewN (Below.refl _ _) _)), hide (HF.out.below (Hh.below_drewN (Below.refl _ _) _))⟩
                                  case measure => simp [intOf]; omega
                            · have hk1 : ¬ ((kd : Int) = 0) := by omega
                              have hk2 : ((kd : Int) == 0) = false := by simpa using hk0
                              clear hk0
                              go_wp2
                              go_quiet (fail)
                              go_wp2
                              go_roundw
                              case rel => exact ⟨y + 1, by omega, by go_num, hide (WS.out.below (Hh.below_drewN (Below.refl _ _) _)), hide (words_below HQ.out (Hh.below_drewN (Below.refl _ _) _)), hide (HF.out.below (Hh.below_drewN (Below.refl _ _) _))⟩
                              case measure => simp [intOf]; omega
                  · have hyE : y = K.S := by omega
                    have hNb := HI.out.1.N_b
                    have hq2 : wr.cell? ⟨Q, 2, none⟩ = some (.int .u64 0) := word_cell (v := 0) HQ.out (by rw [WS.out.inv.tp.len]; omega) WS.out.inv.x2
                    have h2N : (2 : Int) < (K.N : Int) := by omega
                    subst hyE
                    go_wp2
                    go_ret
                    exact ⟨rfl, WS.out.bel⟩
          · have hpn' : ¬ ((p : Int) < (np : Int)) := by omega
            as_aux_lemma =>
              obtain ⟨X, T, tag, F, md, cur, R, A, htg, hT, ws⟩ := wp
              have b6 := ws.wd.cells.2.1
              have c13 := hide (wordsX ws.mem ws.inv.tp.len (by have := HI.out.1.N_b; omega))
              have HX64 := hide ws.mem.fits
              obtain ⟨l0, l1, l2, l3, l4, l5⟩ := ws.cells
              have WS := hide ws
              clear ws htg hT
              go_upto_region 26 with (go_at_call 13; refine Calls.mono c13.out ?_; rintro e w10 ⟨Q, rfl, hq, hQ, hb⟩; replace WS := hide (WS.out.below hb); clear l0 l1 l2 l3 l4 l5 b6 hQ hb)
              obtain ⟨l0, l1, l2, l3, l4, l5⟩ := WS.out.cells
              have c14 := hide (rlist_Y HI.out.1 hq WS.out.inv.tp HX64.out)
              have HQ := hide hq
              clear hq c13
              go_upto_region 27 with (go_at_call 14; refine Calls.mono c14.out ?_; rintro e w11 ⟨fv, rfl, hI, hfv, hb⟩; replace WS := hide (WS.out.below hb); replace HQ := hide (words_below HQ.out hb); clear l0 l1 l2 l3 l4 l5 hfv hb)
              clear c14
              have hFl : F.length ≤ 65536 := by
                have h1 := nodup_len K.S F WS.out.inv.tp.nd WS.out.inv.tp.ch.lt
                have := HI.out.2.2.2
                omega
              have HFL := hide hFl
              clear hFl
              go_wp2
              go_loopw [16] (fun x wr => ∃ y : Nat, y ≤ K.S ∧ x = .int .i64 y ∧ Hid (Ws w wr K j M G B D L X T tag F md cur R A) ∧ Hid (IsWords wr Q X) ∧ Hid (IsI wr fv F)) (fun x _ => K.S - (intOf x).toNat)
              case atStart => exact ⟨0, Nat.zero_le _, rfl, WS, HQ, hI⟩
              case round =>
                clear WS HQ hI
                obtain ⟨y, hy, rfl, WS, HQ, HF⟩ := hrel
                have l0 := WS.out.cells.1
                by_cases hyS : y < K.S
                · have hyS' : (y : Int) < (K.S : Int) := by omega
                  obtain ⟨um, ug, ua, us, uz, c15'⟩ := unp_all (HX64.out (K.hd y))
                  have hln : X.length = K.N := WS.out.inv.tp.len
                  have hdl : K.hd y < K.N := K.hd_lt hyS
                  have HDL : Hid (K.hd y < X.length) := by unfold Hid; omega
                  have LAST := hide (WS.out.inv.last (by have := HI.out.2.2.1; omega) y j (Nat.le_refl _))
                  have c16 : Hid (∀ wr, Hid (Ws w wr K j M G B D L X T tag F md cur R A) → Calls Tryd.prog 16 #[.pointer (some ⟨B, 0, none⟩), .string ⟨#[104, 101, 97, 100, 101, 114]⟩, .int .i64 (y : Nat), .int .i64 0] wr fun e w' => e = .returned (.int .i64 (K.hd y : Nat)) ∧ Below wr.heap.size wr w') := fun wr h => wat16_hd HI.out.1 h.out.wd hyS
                  obtain ⟨W, hW⟩ : ∃ W, X.getD (K.hd y) 0 = W := ⟨_, rfl⟩
                  rw [hW] at c15' LAST
                  obtain ⟨hd, hhd⟩ : ∃ hd, K.hd y = hd := ⟨_, rfl⟩
                  rw [hhd] at hW hdl HDL c16
                  have HW := hide hW
                  obtain ⟨NN, hNN⟩ : ∃ NN, K.N = NN := ⟨_, rfl⟩
                  rw [hNN] at hdl
                  obtain ⟨kd, hkd⟩ : ∃ kd, kdW W = kd := ⟨_, rfl⟩
                  obtain ⟨gn, hgn⟩ : ∃ gn, genW W = gn := ⟨_, rfl⟩
                  rw [hkd, hgn] at c15' LAST
                  have c15 := hide c15'
                  clear hW hhd hkd hgn c15' hln
                  rw [hNN]
                  clear hNN
                  go_upto_region 31 with (first
                    | (go_at_call 16; with_reducible refine (c16.out _ WS).mono ?_; rintro e w12 ⟨rfl, hb⟩; replace WS := hide (WS.out.below hb); replace HQ := hide (words_below HQ.out hb); replace HF := hide (HF.out.below hb); clear hb l0; have hqc := word_cell HQ.out HDL.out HW.out)
                    | (go_at_call 15; with_reducible refine (c15.out _).mono ?_; rintro e w13 ⟨rfl, hb⟩; replace WS := hide (WS.out.below hb); replace HQ := hide (words_below HQ.out hb); replace HF := hide (HF.out.below hb); clear hb hqc))
                  have hR9 := Hh.hd_new w13 (kd : Nat) um ug ua (gn : Nat) us
                  have hb13 := alloc_below w13 (.cells #[.int .i64 (kd : Nat), .int .i64 um, .bool ug, .int .i64 ua, .int .i64 (gn : Nat), .int .i64 us] 48)
                  replace WS := hide (WS.out.below hb13)
                  replace HQ := hide (words_below HQ.out hb13)
                  replace HF := hide (HF.out.below hb13)
                  clear hb13
                  generalize w13.heap.size = R9 at *
                  generalize w13.alloc (.cells #[.int .i64 (kd : Nat), .int .i64 um, .bool ug, .int .i64 ua, .int .i64 (gn : Nat), .int .i64 us] 48) = w14 at *
                  obtain ⟨k0, _, _, _, k4, _⟩ := hR9.cells
                  have b7 := WS.out.wd.cells.2.2
                  have dy := WS.out.cnt.cell (s := y) (by rw [WS.out.inv.ml]; exact hyS)
                  obtain ⟨mv, hmv⟩ : ∃ mv, md.getD y 0 = mv := ⟨_, rfl⟩
                  rw [hmv] at dy LAST
                  have q17' := has_any HF.out HFL.out y
                  have LAST0 := LAST.out
                  obtain ⟨nb, hnb⟩ : ∃ nb, (if y ∈ F ∨ kd = 4 then 1 else 0) = nb := ⟨_, rfl⟩
                  rw [hnb] at LAST0
                  have LST := hide LAST0
                  have hS12 : K.S ≤ 12 := HI.out.2.2.2
                  clear hmv LAST LAST0 hR9 hdl HDL HW c15 c16
                  by_cases hm : y ∈ F
                  · as_aux_lemma =>
                    rw [if_pos (.inl hm)] at hnb
                    subst hnb
                    rw [decide_eq_true hm] at q17'
                    have q17 := hide q17'
                    have HN : Hid (1 = 1 + cntH R y 0) := rfl
                    have HNB : Hid (1 ≤ 1 ∧ (1 : Nat) = 1) := ⟨Nat.le_refl 1, rfl⟩
                    clear q17' hm
                    go_wp2_with (go_at_call 17; with_reducible refine Calls.mono q17.out ?_; rintro e w15 ⟨rfl, rfl⟩)
                    clear q17
                    go_loop [19, 20] (fun nn i => ∃ (N i' : Nat), i' ≤ j ∧ i = .int .i64 i' ∧ nn = .int .i64 N ∧ Hid (N = 1 + cntH R y i')) (fun _ i => j - (intOf i).toNat)
                    case atStart => exact ⟨_, 0, Nat.zero_le _, rfl, rfl, HN⟩
                    case round =>
                      clear HN
                      obtain ⟨N, i, hij, rfl, rfl, hN⟩ := hrel
                      by_cases hin : i < j
                      · have hin' : (i : Int) < (j : Int) := by omega
                        obtain ⟨z6, zI, zl⟩ := WS.out.had HI.out.1 hin
                        have qi := has_any zI zl y
                        have hN1 : N ≤ 20 := by
                          have h0 := hN.out
                          have h1 := (WS.out.inv.cnt y i (by omega)).1
                          have := HNB.out
                          omega
                        obtain ⟨hvi, hvie⟩ : ∃ hvi, (A i).hv = hvi := ⟨_, rfl⟩
                        rw [hvie] at z6 qi
                        clear hvie zI zl
                        by_cases hmi : y ∈ (R i).has
                        · rw [decide_eq_true hmi] at qi
                          have QI := hide qi
                          have hN2 : Hid (N + 1 = 1 + cntH R y (i + 1)) := by have h0 := hN.out; unfold Hid; unfold cntH; rw [if_pos hmi]; omega
                          clear qi hN hmi
                          go_wp2_with (go_at_call 17; with_reducible refine Calls.mono QI.out ?_; rintro e w16 ⟨rfl, rfl⟩)
                          go_round
                          case rel => exact ⟨_, i + 1, by omega, by go_num, by go_num, hN2⟩
                          case measure => simp [intOf]; omega
                        · rw [decide_eq_false hmi] at qi
                          have QI := hide qi
                          have hN2 : Hid (N = 1 + cntH R y (i + 1)) := by have h0 := hN.out; unfold Hid; unfold cntH; rw [if_neg hmi]; omega
                          clear qi hN hmi
                          go_wp2_with (go_at_call 17; with_reducible refine Calls.mono QI.out ?_; rintro e w16 ⟨rfl, rfl⟩)
                          go_round
                          case rel => exact ⟨_, i + 1, by omega, by go_num, by go_num, hN2⟩
                          case measure => simp [intOf]; omega
                      · have hie : i = j := by omega
                        subst hie
                        have hN9 : N ≤ 1 := by have h0 := hN.out; have h1 := LST.out.1; omega
                        have hN8 : ¬ (1 < (N : Int)) := by omega
                        have hN7 : decide (1 < (N : Int)) = false := decide_eq_false hN8
                        have HB : Hid (N = 1 → kd = 0 → gn = mv) := fun h1 h2 => LST.out.2 (by have h0 := hN.out; omega) h2
                        clear LST
                        by_cases hk0 : kd = 0
                        · have HN1 : N = 1 := by have := hN.out; have := HNB.out; omega
                          have hge : gn = mv := HB.out HN1 hk0
                          subst hge
                          subst hk0
                          clear HB
                          go_wp2
                          go_quiet (fail)
                          go_wp2
                          go_roundw
                          case rel => exact ⟨y + 1, by omega, by go_num, hide (WS.out.below (Hh.below_drewN (Below.refl _ _) _)), hide (words_below HQ.out (Hh.below_drewN (Below.refl _ _) _)), hide (HF.out.below (Hh.below_drewN (Below.refl _ _) _))⟩
                          case measure => simp [intOf]; omega
                        · have hk1 : ¬ ((kd : Int) = 0) := by omega
                          have hk2 : ((kd : Int) == 0) = false := by simpa using hk0
                          clear hk0
                          go_wp2
                          go_quiet (fail)
                          go_wp2
                          go_roundw
                          case rel => exact ⟨y + 1, by omega, by go_num, hide (WS.out.below (Hh.below_drewN (Below.refl _ _) _)), hide (words_below HQ.out (Hh.below_drewN (Below.refl _ _) _)), hide (HF.out.below (Hh.below_drewN (Below.refl _ _) _))⟩
                          case measure => simp [intOf]; omega
                  · by_cases h4 : kd = 4
                    · as_aux_lemma =>
                      rw [if_pos (.inr h4)] at hnb
                      subst hnb
                      subst h4
                      rw [decide_eq_false hm] at q17'
                      have q17 := hide q17'
                      have HN : Hid (1 = 1 + cntH R y 0) := rfl
                      have HNB : Hid (1 ≤ 1 ∧ (1 : Nat) = 1) := ⟨Nat.le_refl 1, rfl⟩
                      clear q17' hm
                      go_wp2_with (go_at_call 17; with_reducible refine Calls.mono q17.out ?_; rintro e w15 ⟨rfl, rfl⟩)
                      clear q17
                      go_loop [19, 20] (fun nn i => ∃ (N i' : Nat), i' ≤ j ∧ i = .int .i64 i' ∧ nn = .int .i64 N ∧ Hid (N = 1 + cntH R y i')) (fun _ i => j - (intOf i).toNat)
                      case atStart => exact ⟨_, 0, Nat.zero_le _, rfl, rfl, HN⟩
                      case round =>
                        clear HN
                        obtain ⟨N, i, hij, rfl, rfl, hN⟩ := hrel
                        by_cases hin : i < j
                        · have hin' : (i : Int) < (j : Int) := by omega
                          obtain ⟨z6, zI, zl⟩ := WS.out.had HI.out.1 hin
                          have qi := has_any zI zl y
                          have hN1 : N ≤ 20 := by
                            have h0 := hN.out
                            have h1 := (WS.out.inv.cnt y i (by omega)).1
                            have := HNB.out
                            omega
                          obtain ⟨hvi, hvie⟩ : ∃ hvi, (A i).hv = hvi := ⟨_, rfl⟩
                          rw [hvie] at z6 qi
                          clear hvie zI zl
                          by_cases hmi : y ∈ (R i).has
                          · rw [decide_eq_true hmi] at qi
                            have QI := hide qi
                            have hN2 : Hid (N + 1 = 1 + cntH R y (i + 1)) := by have h0 := hN.out; unfold Hid; unfold cntH; rw [if_pos hmi]; omega
                            clear qi hN hmi
                            go_wp2_with (go_at_call 17; with_reducible refine Calls.mono QI.out ?_; rintro e w16 ⟨rfl, rfl⟩)
                            go_round
                            case rel => exact ⟨_, i + 1, by omega, by go_num, by go_num, hN2⟩
                            case measure => simp [intOf]; omega
                          · rw [decide_eq_false hmi] at qi
                            have QI := hide qi
                            have hN2 : Hid (N = 1 + cntH R y (i + 1)) := by have h0 := hN.out; unfold Hid; unfold cntH; rw [if_neg hmi]; omega
                            clear qi hN hmi
                            go_wp2_with (go_at_call 17; with_reducible refine Calls.mono QI.out ?_; rintro e w16 ⟨rfl, rfl⟩)
                            go_round
                            case rel => exact ⟨_, i + 1, by omega, by go_num, by go_num, hN2⟩
                            case measure => simp [intOf]; omega
                        · have hie : i = j := by omega
                          subst hie
                          have hN9 : N ≤ 1 := by have h0 := hN.out; have h1 := LST.out.1; omega
                          have hN8 : ¬ (1 < (N : Int)) := by omega
                          have hN7 : decide (1 < (N : Int)) = false := decide_eq_false hN8
                          have HB : Hid (N = 1 → (4 : Nat) = 0 → gn = mv) := fun h1 h2 => LST.out.2 (by have h0 := hN.out; omega) h2
                          clear LST
                          go_wp2
                          go_quiet (fail)
                          go_wp2
                          go_roundw
                          case rel => exact ⟨y + 1, by omega, by go_num, hide (WS.out.below (Hh.below_drewN (Below.refl _ _) _)), hide (words_below HQ.out (Hh.below_drewN (Below.refl _ _) _)), hide (HF.out.below (Hh.below_drewN (Below.refl _ _) _))⟩
                          case measure => simp [intOf]; omega
                    · as_aux_lemma =>
                      rw [if_neg (fun h => h.elim hm h4)] at hnb
                      subst hnb
                      have h4' : ¬ ((kd : Int) = 4) := by omega
                      have h4'' : ((kd : Int) == 4) = false := beq_false_of_ne h4'
                      rw [decide_eq_false hm] at q17'
                      have q17 := hide q17'
                      have HN : Hid (0 = 0 + cntH R y 0) := rfl
                      have HNB : Hid (0 ≤ 1 ∧ (0 : Nat) = 0) := ⟨Nat.zero_le 1, rfl⟩
                      clear q17' hm h4
                      go_wp2_with (go_at_call 17; with_reducible refine Calls.mono q17.out ?_; rintro e w15 ⟨rfl, rfl⟩)
                      clear q17
                      go_loop [19, 20] (fun nn i => ∃ (N i' : Nat), i' ≤ j ∧ i = .int .i64 i' ∧ nn = .int .i64 N ∧ Hid (N = 0 + cntH R y i')) (fun _ i => j - (intOf i).toNat)
                      case atStart => exact ⟨_, 0, Nat.zero_le _, rfl, rfl, HN⟩
                      case round =>
                        clear HN
                        obtain ⟨N, i, hij, rfl, rfl, hN⟩ := hrel
                        by_cases hin : i < j
                        · have hin' : (i : Int) < (j : Int) := by omega
                          obtain ⟨z6, zI, zl⟩ := WS.out.had HI.out.1 hin
                          have qi := has_any zI zl y
                          have hN1 : N ≤ 20 := by
                            have h0 := hN.out
                            have h1 := (WS.out.inv.cnt y i (by omega)).1
                            have := HNB.out
                            omega
                          obtain ⟨hvi, hvie⟩ : ∃ hvi, (A i).hv = hvi := ⟨_, rfl⟩
                          rw [hvie] at z6 qi
                          clear hvie zI zl
                          by_cases hmi : y ∈ (R i).has
                          · rw [decide_eq_true hmi] at qi
                            have QI := hide qi
                            have hN2 : Hid (N + 1 = 0 + cntH R y (i + 1)) := by have h0 := hN.out; unfold Hid; unfold cntH; rw [if_pos hmi]; omega
                            clear qi hN hmi
                            go_wp2_with (go_at_call 17; with_reducible refine Calls.mono QI.out ?_; rintro e w16 ⟨rfl, rfl⟩)
                            go_round
                            case rel => exact ⟨_, i + 1, by omega, by go_num, by go_num, hN2⟩
                            case measure => simp [intOf]; omega
                          · rw [decide_eq_false hmi] at qi
                            have QI := hide qi
                            have hN2 : Hid (N = 0 + cntH R y (i + 1)) := by have h0 := hN.out; unfold Hid; unfold cntH; rw [if_neg hmi]; omega
                            clear qi hN hmi
                            go_wp2_with (go_at_call 17; with_reducible refine Calls.mono QI.out ?_; rintro e w16 ⟨rfl, rfl⟩)
                            go_round
                            case rel => exact ⟨_, i + 1, by omega, by go_num, by go_num, hN2⟩
                            case measure => simp [intOf]; omega
                        · have hie : i = j := by omega
                          subst hie
                          have hN9 : N ≤ 1 := by have h0 := hN.out; have h1 := LST.out.1; omega
                          have hN8 : ¬ (1 < (N : Int)) := by omega
                          have hN7 : decide (1 < (N : Int)) = false := decide_eq_false hN8
                          have HB : Hid (N = 1 → kd = 0 → gn = mv) := fun h1 h2 => LST.out.2 (by have h0 := hN.out; omega) h2
                          clear LST
                          by_cases hk0 : kd = 0
                          · by_cases HN1 : N = 1
                            · have hge : gn = mv := HB.out HN1 hk0
                              subst hge
                              subst hk0
                              clear HB
                              go_wp2
                              go_quiet (fail)
                              go_wp2
                              go_roundw
                              case rel => exact ⟨y + 1, by omega, by go_num, hide (WS.out.below (Hh.below_drewN (Below.refl _ _) _)), hide (words_below HQ.out (Hh.below_drewN (Below.refl _ _) _)), hide (HF.out.below (Hh.below_drewN (Below.refl _ _) _))⟩
                              case measure => simp [intOf]; omega
                            · have hN3 : ¬ ((N : Int) = 1) := by omega
                              have hN4 : ((N : Int) == 1) = false := beq_false_of_ne hN3
                              subst hk0
                              clear HB
                              by_cases hgm : gn = mv
                              · subst hgm
                                go_wp2
                                go_quiet (fail)
                                go_wp2
                                go_roundw
                                case rel => exact ⟨y + 1, by omega, by go_num, hide (WS.out.below (Hh.below_drewN (Below.refl _ _) _)), hide (words_below HQ.out (Hh.below_drewN (Below.refl _ _) _)), hide (HF.out.below (Hh.below_drewN (Below.refl _ _) _))⟩
                                case measure => simp [intOf]; omega
                              · have hgm' : ¬ ((gn : Int) = (mv : Int)) := by omega
                                have hgm2 : ((gn : Int) == (mv : Int)) = false := beq_false_of_ne hgm'
                                have hgm3 : ((gn : Int) != (mv : Int)) = true := bne_iff_ne.2 hgm'
                                clear hgm
                                go_wp2
                                go_quiet (fail)
                                go_wp2
                                go_roundw
                                case rel => exact ⟨y + 1, by omega, by go_num, hide (WS.out.below (Hh.below_drewN (Below.refl _ _) _)), hide (words_below HQ.out (Hh.below_drewN (Below.refl _ _) _)), hide (HF.out.below (Hh.below_drewN (Below.refl _ _) _))⟩
                                case measure => simp [intOf]; omega
                          · have hk1 : ¬ ((kd : Int) = 0) := by omega
                            have hk2 : ((kd : Int) == 0) = false := by simpa using hk0
                            clear hk0
                            go_wp2
                            go_quiet (fail)
                            go_wp2
                            go_roundw
                            case rel => exact ⟨y + 1, by omega, by go_num, hide (WS.out.below (Hh.below_drewN (Below.refl _ _) _)), hide (words_below HQ.out (Hh.below_drewN (Below.refl _ _) _)), hide (HF.out.below (Hh.below_drewN (Below.refl _ _) _))⟩
                            case measure => simp [intOf]; omega
                · have hyE : y = K.S := by omega
                  have hNb := HI.out.1.N_b
                  have hq2 : wr.cell? ⟨Q, 2, none⟩ = some (.int .u64 0) := word_cell (v := 0) HQ.out (by rw [WS.out.inv.tp.len]; omega) WS.out.inv.x2
                  have h2N : (2 : Int) < (K.N : Int) := by omega
                  subst hyE
                  go_wp2
                  go_ret
                  exact ⟨rfl, WS.out.bel⟩
end Go.Proofs.YtjbjijkkmlehgaaDoor
