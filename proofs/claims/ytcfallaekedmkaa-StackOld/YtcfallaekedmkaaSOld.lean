/- The law of one that comes too late, walked. -/
import Derived.Test.YtcfallaekedmkaaSTags
namespace Go.Proofs.Ytcfallaekedmkaa
open Go.RowKit
open Mm (IsMem MS zeroMS)
set_option linter.unusedVariables false

/-- A Pop that has loaded a top of this tag, and its link. -/
def Waits (w : World) (O : Nat) (K : Cf) (tag : Nat) : Prop := ∃ p : PS, IsPopS w O K p ∧ PWf K p ∧ p.sl = -1 ∧ p.em = false ∧ p.pc = 2 ∧ p.tp / 65536 = tag
theorem Waits.below {w w' : World} {O : Nat} {K : Cf} {tag : Nat} (h : Waits w O K tag) (b : Below w.heap.size w w') : Waits w' O K tag := by
  obtain ⟨p, h1, h2⟩ := h
  exact ⟨p, h1.below b, h2⟩
theorem Waits.chg {L : List Nat} {w w' : World} {O : Nat} {K : Cf} {tag : Nat} (h : Waits w O K tag) (b : Chg L w w') (hn : O ∉ L) : Waits w' O K tag := by
  obtain ⟨p, h1, h2⟩ := h
  exact ⟨p, h1.chg b hn, h2⟩
theorem Waits.kept {w w' : World} {O : Nat} {K : Cf} {tag : Nat} (h : Waits w O K tag) (b : w'.heap[O]? = w.heap[O]?) : Waits w' O K tag := by
  obtain ⟨p, h1, h2⟩ := h
  exact ⟨p, b.trans h1, h2⟩
theorem Waits.lt {w : World} {O : Nat} {K : Cf} {tag : Nat} (h : Waits w O K tag) : O < w.heap.size := by
  obtain ⟨p, h1, h2⟩ := h
  exact h1.lt

theorem pop_two {K : Cf} (hK : K.Ok) {M G P : Nat} {w : World} {tag s : Nat} {F : List Nat} {T : Int} (hp : IsPopS w P K pop0) (h1 : P ≠ M) (h2 : P ≠ G) (hm : MemT w M G K tag (s :: F) T) (hT : T + 3 < 4611686018427387904) :
    Calls Try.prog 21 #[.pointer (some ⟨P, 0, none⟩), .pointer (some ⟨M, 0, none⟩)] w fun e w1 => e = .returned (.bool false) ∧
      Calls Try.prog 21 #[.pointer (some ⟨P, 0, none⟩), .pointer (some ⟨M, 0, none⟩)] w1 fun e w2 => e = .returned (.bool false) ∧
          Waits w2 P K tag ∧ MemT w2 M G K tag (s :: F) (T + 2) ∧ Chg [P, M, G] w w2 := by
  obtain ⟨m, hm, tp, t0, t1⟩ := hm
  have hw := pop0_wf K
  have e1 := pop_1 (p := pop0) tp rfl
  have c1 := popStep_any hK hm hp h1 h2 tp.len (by omega) hw
  have w1f := popStep_wf (m := m) hw (fun i => hm.word_lt i)
  rw [e1] at c1 w1f
  refine c1.mono fun e w1 ⟨he1, m1, p1, k1⟩ => ⟨he1, ?_⟩
  clear c1 e1
  have x1 : (Mm.touched m 1 3 (m.X.getD 3 0)).X = m.X := touched_X m 1 3
  have y1 : (Mm.touched m 1 3 (m.X.getD 3 0)).t = m.t + 1 := rfl
  generalize Mm.touched m 1 3 (m.X.getD 3 0) = ma at *
  replace m1 : IsMem w1 M G ma := m1
  have e2 := pop_2 (K := K) (m := ma) (p := ⟨pop0.sl, pop0.em, 1, m.X.getD 3 0, pop0.nx⟩) (s := s) rfl tp.fst
  have c2 := popStep_any hK m1 p1 h1 h2 (by rw [x1]; exact tp.len) (by omega) w1f
  have w2f := popStep_wf (m := ma) w1f (fun i => m1.word_lt i)
  rw [e2] at c2 w2f
  refine c2.mono fun e w2 ⟨he2, m2, p2, k2⟩ => ⟨he2, ⟨_, p2, w2f, rfl, rfl, rfl, tp.tg⟩, ⟨_, m2, ?_, ?_, ?_⟩, k1.trans k2⟩
  · rw [touched_X, x1]; exact tp
  · show 0 ≤ ma.t + 1
    omega
  · show ma.t + 1 ≤ _
    omega

theorem Waits.c0 {w : World} {O : Nat} {K : Cf} {tag : Nat} (h : Waits w O K tag) : w.cell? ⟨O, 0, none⟩ = some (.int .i64 (-1)) := by
  obtain ⟨p, h1, _, h2, _⟩ := h
  exact h1.c0 h2
theorem mk7 {wr : World} {B O : Nat} {s a c d g k x : Int} (h : IsCfg wr B s a c d g k) (z : wr.cell? ⟨O, 0, none⟩ = some (.int .i64 x)) : wr.cell? ⟨B, 0, none⟩ = some (.int .i64 s) ∧ wr.cell? ⟨B, 1, none⟩ = some (.int .i64 a) ∧ wr.cell? ⟨B, 2, none⟩ = some (.int .i64 c) ∧ wr.cell? ⟨B, 3, none⟩ = some (.int .i64 d) ∧ wr.cell? ⟨B, 4, none⟩ = some (.int .i64 g) ∧ wr.cell? ⟨B, 5, none⟩ = some (.int .i64 k) ∧ wr.cell? ⟨O, 0, none⟩ = some (.int .i64 x) := by
  obtain ⟨l0, l1, l2, l3, l4, l5⟩ := h.cells
  exact ⟨l0, l1, l2, l3, l4, l5, z⟩

/-- The top was moved meanwhile: it begins anew. -/
theorem pop_late {K : Cf} (hK : K.Ok) {M G P : Nat} {w : World} {tag tag0 : Nat} {F : List Nat} {T : Int} (hp : Waits w P K tag0) (h1 : P ≠ M) (h2 : P ≠ G) (hm : MemT w M G K tag F T) (ht : tag0 < tag) (hT : T + 3 < 4611686018427387904) :
    Calls Try.prog 21 #[.pointer (some ⟨P, 0, none⟩), .pointer (some ⟨M, 0, none⟩)] w fun e w1 => e = .returned (.bool false) ∧
      (∃ p : PS, IsPopS w1 P K p ∧ PWf K p ∧ p.sl = -1 ∧ p.em = false ∧ p.pc = 0) ∧ MemT w1 M G K tag F (T + 1) ∧ Chg [P, M, G] w w1 := by
  obtain ⟨p, hp, hw, e1, e2, e3, e4⟩ := hp
  obtain ⟨m, hm, tp, t0, t1⟩ := hm
  have hne : m.X.getD 3 0 ≠ p.tp := fun h => by have := tp.tg; rw [h] at this; omega
  have c1 := popStep_any hK hm hp h1 h2 tp.len (by omega) hw
  have w1f := popStep_wf (m := m) hw (fun i => hm.word_lt i)
  rw [pop_no e3 hne] at c1 w1f
  refine c1.mono fun e w1 ⟨he1, m1, p1, k1⟩ => ⟨he1, ⟨_, p1, w1f, e1, e2, rfl⟩, ⟨_, m1, ?_, ?_, ?_⟩, k1⟩
  · rw [touched_X]; exact tp
  · show 0 ≤ m.t + 1
    omega
  · show m.t + 1 ≤ _
    omega

/-- What is known while an old Pop waits for its swap. -/
structure Old (w wr : World) (K : Cf) (M G O tag : Nat) (v : Value) (F hs : List Nat) (T : Int) : Prop where
  tg : Tg8 w wr K M G tag v F hs T
  old : Waits wr O K 0
  hO : w.heap.size + 1 ≤ O ∧ O ≠ M ∧ O ≠ G
  ov : ∀ r, v.ownBlock = some r → r ≠ O

theorem Old.below {w wr w1 : World} {K : Cf} {M G O tag : Nat} {v : Value} {F hs : List Nat} {T : Int} (h : Old w wr K M G O tag v F hs T) (b : Below wr.heap.size wr w1) : Old w w1 K M G O tag v F hs T := ⟨h.tg.below b, h.old.below b, h.hO, h.ov⟩

set_option maxRecDepth 8000 in
set_option maxHeartbeats 8000000 in
theorem old_law (s a c d g k more : Int) (hmore : 0 ≤ more ∧ more ≤ 255) (w : World) : Calls Try.prog 6 #[.agg (cs s a c d g k), .int .u8 more] w fun e w' => e = .returned (.bool true) ∧ Below w.heap.size w w' := by
  have cf := Fit_any s a c d g k
  have bel := alloc_below w (.cells #[.int .i64 s, .int .i64 a, .int .i64 c, .int .i64 d, .int .i64 g, .int .i64 k] 23)
  have hh := cfg_new w s a c d g k
  go_enter Try.func6, Try.ntmps6
  go_upto_region 1 with fail
  generalize w.alloc (.cells #[.int .i64 s, .int .i64 a, .int .i64 c, .int .i64 d, .int .i64 g, .int .i64 k] 23) = w1 at *
  obtain ⟨l0, l1, l2, l3, l4, l5⟩ := hh.cells
  go_upto_region 2 with (first
    | (go_at_call 9; refine (cf _).mono ?_; rintro e w2 ⟨⟨s', a', c', d', g', k', rfl, hs, ha, hc, hd, hg, hk⟩, b⟩; replace bel := seq_below bel b; replace hh := hh.below b; obtain ⟨l0, l1, l2, l3, l4, l5⟩ := hh.cells; have y0 := hh.free 0; have y1 := hh.free 1; have y2 := hh.free 2; have y3 := hh.free 3; have y4 := hh.free 4; have y5 := hh.free 5))
  have h3 := cfg_stored6 hh s' a' c' d' g' k'
  have bel3 := below_stored6 bel (Nat.le_refl w.heap.size) (.int .i64 s') (.int .i64 a') (.int .i64 c') (.int .i64 d') (.int .i64 g') (.int .i64 k')
  clear l0 l1 l2 l3 l4 l5 y0 y1 y2 y3 y4 y5 hh bel cf
  generalize ((((((w2.setCell ⟨w.heap.size, 0, none⟩ (.int .i64 s')).setCell ⟨w.heap.size, 1, none⟩ (.int .i64 a')).setCell ⟨w.heap.size, 2, none⟩ (.int .i64 c')).setCell ⟨w.heap.size, 3, none⟩ (.int .i64 d')).setCell ⟨w.heap.size, 4, none⟩ (.int .i64 g')).setCell ⟨w.heap.size, 5, none⟩ (.int .i64 k')) = w3 at *
  obtain ⟨l0, l1, l2, l3, l4, l5⟩ := h3.cells
  have f0 := h3.free 0
  go_upto_region 3 with fail
  have hb3 : 3 ≤ (if s' < 3 then 3 else s') ∧ (if s' < 3 then 3 else s') ≤ 12 := by split <;> omega
  generalize (if s' < 3 then 3 else s') = s3 at *
  replace bel3 := bel3.setCell (p := ⟨w.heap.size, 0, none⟩) (Nat.le_refl _) (.int .i64 s3)
  replace h3 : IsCfg _ w.heap.size s3 a' c' d' g' k' := Mm.heap_setCell_at (o := 0) h3 (.int .i64 s3)
  clear l0 l1 l2 l3 l4 l5 f0
  generalize w3.setCell ⟨w.heap.size, 0, none⟩ (.int .i64 s3) = wx at *
  have hr : rightB s3 a' c' d' g' k' = true := rightB_iff.2 (by omega)
  clear hs ha hc hd hg hk
  obtain ⟨K, hK, rfl, rfl, rfl, rfl, rfl, rfl⟩ := Cf.of_right hr
  have c10 := memory_yes hK.r hK.b hK.b8 hK.c8 hK.d16 hK.s64 hK.s1 hK.d1
  rw [show zeroMS (memX K.C K.D K.B (nW K.C K.D K.B K.S) (K.S - 1)) = memK0 K from rfl] at c10
  have hlt3 := h3.lt
  have hh := h3
  have bel := bel3
  clear h3 bel3 hr
  obtain ⟨l0, l1, l2, l3, l4, l5⟩ := hh.cells
  have c20 := newPop_K hK
  have c11 := awake_any
  go_upto_region 4 with (first
    | (go_at_call 10; refine (c10 _).mono ?_; rintro e w4 ⟨M, G, rfl, hm, hM, hG, hb⟩))
  have hS : 3 ≤ K.S ∧ K.S ≤ 12 := by omega
  have al : Alo w w4 K M G 0 (List.range' 0 K.S) 0 := ⟨mem_T hK hm, hh.below hb, seq_below bel hb, by omega, by omega⟩
  clear l0 l1 l2 l3 l4 l5 hm hM hG hb hh bel hlt3 c10
  rw [show K.S = (K.S - 1) + 1 by omega, List.range'_succ] at al
  obtain ⟨l0, l1, l2, l3, l4, l5⟩ := al.cfg.cells
  go_upto_region 5 with (go_at_call 20; refine (c20 _).mono ?_; rintro e w5 ⟨O, rfl, hp, hP, hb⟩)
  have hl := al.lt
  have hMG := al.mem.lt
  have hne : O ≠ M ∧ O ≠ G := by omega
  replace al := al.below hb
  have q1 := pop_two hK hp hne.1 hne.2 al.mem (by omega)
  clear l0 l1 l2 l3 l4 l5 hb hp
  have hS1 : (2 : Int) ≤ (K.S : Int) - 1 ∧ (K.S : Int) - 1 ≤ 11 := by omega
  have hwS : IntKind.i64.wrap ((K.S : Int) - 1) = (K.S : Int) - 1 := by rw [IntKind.wrap_i64]; omega
  have htm : 0 ≤ more.tmod ((K.S : Int) - 1) ∧ more.tmod ((K.S : Int) - 1) < (K.S : Int) - 1 := by
    rw [Int.tmod_eq_emod_of_nonneg hmore.1]
    exact ⟨Int.emod_nonneg _ (by omega), Int.emod_lt_of_pos _ (by omega)⟩
  go_upto_region 8 with (first
    | (go_at_call 21; with_reducible refine q2.mono ?_; rintro e w7 ⟨rfl, old, hm2, ch⟩; replace al := al.chg ch (by omega) hm2)
    | (go_at_call 21; with_reducible refine q1.mono ?_; rintro e w6 ⟨rfl, q2⟩))
  clear q1 q2 hm2 ch
  obtain ⟨l0, l1, l2, l3, l4, l5⟩ := al.cfg.cells
  go_upto_region 10 with fail
  have hz : ∃ nn : Nat, wrap64 (1 + more % ((K.S : Int) - 1)) = (nn : Int) ∧ 1 ≤ nn ∧ nn + 1 ≤ K.S := by
    rw [Int.tmod_eq_emod_of_nonneg hmore.1] at htm
    refine ⟨(1 + more % ((K.S : Int) - 1)).toNat, ?_, by omega, by omega⟩
    unfold wrap64
    omega
  generalize wrap64 (1 + more % ((K.S : Int) - 1)) = zz at hz ⊢
  obtain ⟨nn, rfl, hn1, hn2⟩ := hz
  have hold : Old w w7 K M G O 0 (.slice none 0 0) (List.range' 0 (K.S - 0)) (List.range' 0 0) 2 := by
    refine ⟨⟨?_, IsI.nil _, (fun r hr => by cases hr), ?_⟩, old, by omega, fun r hr => by cases hr⟩
    · rw [show K.S - 0 = (K.S - 1) + 1 by omega, List.range'_succ]; exact al
    · exact All.new K
  clear al old l0 l1 l2 l3 l4 l5 hwS htm hS1 hmore
  go_wp2
  go_loopw [7, 9] (fun v i wr => ∃ j : Nat, j ≤ nn ∧ i = .int .i64 j ∧ Old w wr K M G O j v (List.range' j (K.S - j)) (List.range' 0 j) (3 * j + 2)) (fun _ i _ => nn - (intOf i).toNat)
  case atStart => exact ⟨0, by omega, rfl, hold⟩
  case round =>
    clear hold
    obtain ⟨j, hj, rfl, hold⟩ := hrel
    obtain ⟨l0, l1, l2, l3, l4, l5⟩ := hold.tg.al.cfg.cells
    by_cases hjn : j < nn
    · rw [show K.S - j = (K.S - (j + 1)) + 1 by omega, List.range'_succ] at hold
      go_upto_region 13 with (go_at_call 20; refine (c20 _).mono ?_; rintro e w5 ⟨P, rfl, hp, hP, hb⟩)
      have hMG := hold.tg.al.mem.lt
      have hl := hold.tg.al.lt
      have hOl := hold.old.lt
      have hPu : ∀ r, u7.ownBlock = some r → r ≠ P := fun r hr => by have := hold.tg.has.lt hr; omega
      replace hold := hold.below hb
      clear l0 l1 l2 l3 l4 l5 hb
      have q1 := pop3 hK hp (by omega) (by omega) hold.tg.al.mem (by omega) (by omega)
      clear hp
      go_wp2
      go_loopw [11] (fun kk wr' => ∃ i : Nat, i ≤ 3 ∧ kk = .int .i64 i ∧ Go3 21 P M (fun w3 => w3.cell? ⟨P, 0, none⟩ = some (.int .i64 (j : Nat)) ∧ MemT w3 M G K (j + 1) (List.range' (j + 1) (K.S - (j + 1))) (3 * j + 2 + 3) ∧ Chg [P, M, G] w5 w3) (3 - i) wr') (fun kk _ => 3 - (intOf kk).toNat)
      case atStart => exact ⟨0, by omega, rfl, q1⟩
      case round =>
        clear q1
        obtain ⟨i, hi3, rfl, q1⟩ := hrel
        by_cases hi : i < 3
        · rw [show 3 - i = (3 - (i + 1)) + 1 by omega] at q1
          have q2 := q1.call
          clear q1
          go_wp2_with (go_at_call 21; refine q2.mono ?_; rintro e w6 ⟨⟨bb, rfl⟩, q3⟩)
          go_roundw
          case rel => exact ⟨i + 1, by omega, by go_num, q3⟩
          case measure => simp [intOf]; omega
        · obtain rfl : i = 3 := by omega
          obtain ⟨z0, hm3, ch⟩ := q1
          obtain ⟨al, hI⟩ := hold.tg.chg (F' := List.range' (j + 1) (K.S - (j + 1))) (hs' := []) ch (by omega) hPu hm3
          have hown := hold.tg.own
          have hO := hold.hO
          have hov := hold.ov
          have old := hold.old.chg ch (by simp; omega)
          have hall := hold.tg.all.pop
          have hcat : List.range' 0 (j + 1) = List.range' 0 j ++ [j] := by rw [List.range'_1_concat, Nat.zero_add]
          rw [← hcat] at hall
          have hlr : (List.range' 0 j).length = j := by simp
          clear hm3 ch hold
          go_wp2_with (at_builtin; refine wpList_append_ints rfl _ _ rfl _ (List.range' 0 j) [j] rfl (hI.below (alloc_below _ _)) ⟨_, 0, none⟩ 1 1 rfl rfl (by simp) (one_new _ _ _) ?c3 ?_)
          case c3 => rw [hlr]; simp; omega
          intro v' w7 hI' hg hp'
          have hMG2 := al.mem.lt
          have hl2 := al.lt
          have hO2 := old.lt
          have hold : Old w w7 K M G O (j + 1) v' (List.range' (j + 1) (K.S - (j + 1))) (List.range' 0 (j + 1)) (3 * ((j + 1 : Nat) : Int) + 2) := by
            refine ⟨⟨(al.grow hg hown).wide (by omega), ?_, ?_, hall⟩, ?_, hO, ?_⟩
            · rw [hcat]; exact hI'
            · intro r hr
              rcases hp' with e | ⟨r', e, hr'⟩
              · exact hown r (e ▸ hr)
              · rw [hr] at e; simp at e; omega
            · refine old.kept ((hg.block O (by simp; omega) (fun e => hov O e.symm rfl)).trans ((alloc_below _ _).block O hO2))
            · intro r hr
              rcases hp' with e | ⟨r', e, hr'⟩
              · exact hov r (e ▸ hr)
              · rw [hr] at e; simp at e; omega
          clear al hI hI' hg hp' hall z0 old
          go_wp2
          go_roundw
          case rel => exact ⟨j + 1, by omega, by go_num, hold⟩
          case measure => simp [intOf]; omega
    · obtain rfl : j = nn := by omega
      have hlr : (List.range' 0 j).length = j := by simp
      have hz0 : (List.range' 0 j).getD 0 0 = 0 := by rw [show j = (j - 1) + 1 by omega, List.range'_succ]; rfl
      obtain ⟨ad2, cp, hv, hcp, hf⟩ := hold.tg.has.form
      obtain ⟨gg, oo, rfl⟩ := hf (fun h => by rw [h] at hlr; simp at hlr; omega)
      rw [hlr] at hv hcp
      subst hv
      have c23 : ∀ w, Calls Try.prog 23 #[.agg K.cs, .int .i64 0] w fun e w' => ∃ P, e = .returned (.pointer (some ⟨P, 0, none⟩)) ∧ IsPushS w' P K ⟨0, 0, 0⟩ ∧ w.heap.size ≤ P ∧ Below w.heap.size w w' := newPush_K hK 0 (by omega)
      have q0 : ∀ wr', Old w wr' K M G O j (.slice (some ⟨gg, oo, none⟩) j cp) (List.range' j (K.S - j)) (List.range' 0 j) (3 * j + 2) → wr'.cell? ⟨w.heap.size, 0, none⟩ = some (.int .i64 (K.S : Nat)) ∧ wr'.cell? ⟨w.heap.size, 1, none⟩ = some (.int .i64 K.a) ∧ wr'.cell? ⟨w.heap.size, 2, none⟩ = some (.int .i64 (K.C : Nat)) ∧ wr'.cell? ⟨w.heap.size, 3, none⟩ = some (.int .i64 (K.D : Nat)) ∧ wr'.cell? ⟨w.heap.size, 4, none⟩ = some (.int .i64 K.g) ∧ wr'.cell? ⟨w.heap.size, 5, none⟩ = some (.int .i64 K.k) ∧ wr'.cell? ⟨gg, oo, none⟩ = some (.int .i64 0) := fun wr' t => by
        obtain ⟨l0, l1, l2, l3, l4, l5⟩ := t.tg.al.cfg.cells
        have := t.tg.has.cell 0 (by omega)
        rw [hz0] at this
        exact ⟨l0, l1, l2, l3, l4, l5, this⟩
      go_upto_region 18 with fail
      have hMG := hold.tg.al.mem.lt
      have hl := hold.tg.al.lt
      have hOl := hold.old.lt
      have hPu0 : gg < wr.heap.size := hold.tg.has.lt rfl
      replace hold := hold.below (Below.refl wr.heap.size wr).drew
      clear l0 l1 l2 l3 l4 l5
      go_region_held (fun wr => wr.cell? ⟨w.heap.size, 0, none⟩ = some (.int .i64 (K.S : Nat)) ∧ wr.cell? ⟨w.heap.size, 1, none⟩ = some (.int .i64 K.a) ∧ wr.cell? ⟨w.heap.size, 2, none⟩ = some (.int .i64 (K.C : Nat)) ∧ wr.cell? ⟨w.heap.size, 3, none⟩ = some (.int .i64 (K.D : Nat)) ∧ wr.cell? ⟨w.heap.size, 4, none⟩ = some (.int .i64 K.g) ∧ wr.cell? ⟨w.heap.size, 5, none⟩ = some (.int .i64 K.k) ∧ wr.cell? ⟨gg, oo, none⟩ = some (.int .i64 0)) (with_reducible exact q0 _ hold) (first
        | (go_at_call 23; with_reducible refine (c23 _).mono ?_; rintro e w5 ⟨P, rfl, hp, hP, hb⟩; replace hold := hold.below hb))
      replace hP : wr.heap.size ≤ P := hP
      have hPu : ∀ r, (Value.slice (some ⟨gg, oo, none⟩) j cp).ownBlock = some r → r ≠ P := fun r hr => by simp [Value.ownBlock] at hr; omega
      have q1 := push3 hK hp (by omega) (by omega) (by omega) hold.tg.al.mem (by simp; omega) (by omega) (by omega)
      clear hp c23
      go_wp2
      go_loopw [13] (fun kk wr' => ∃ i : Nat, i ≤ 3 ∧ kk = .int .i64 i ∧ Go3 24 P M (fun w3 => MemT w3 M G K (j + 1) (0 :: List.range' j (K.S - j)) (3 * j + 2 + 3) ∧ Chg [P, M, G] w5 w3) (3 - i) wr') (fun kk _ => 3 - (intOf kk).toNat)
      case atStart => exact ⟨0, by omega, rfl, q1⟩
      case round =>
        clear q1
        obtain ⟨i, hi3, rfl, q1⟩ := hrel
        by_cases hi : i < 3
        · rw [show 3 - i = (3 - (i + 1)) + 1 by omega] at q1
          have q2 := q1.call
          clear q1
          go_wp2_with (go_at_call 24; refine q2.mono ?_; rintro e w6 ⟨⟨bb, rfl⟩, q3⟩)
          go_roundw
          case rel => exact ⟨i + 1, by omega, by go_num, q3⟩
          case measure => simp [intOf]; omega
        · obtain rfl : i = 3 := by omega
          obtain ⟨hm3, ch⟩ := q1
          obtain ⟨al, hI⟩ := hold.tg.chg (F' := 0 :: List.range' j (K.S - j)) (hs' := []) ch (by omega) hPu hm3
          have hO := hold.hO
          have old := hold.old.chg ch (by simp; omega)
          have hown := hold.tg.own gg rfl
          have hov := hold.ov gg rfl
          clear hm3 ch hold q0 hPu
          go_upto_region 23 with fail
          replace al := al.below (Below.refl _ _).drew
          replace hI := hI.below (Below.refl _ _).drew
          replace old := old.below (Below.refl _ _).drew
          go_region_held (fun wr => wr.cell? ⟨w.heap.size, 0, none⟩ = some (.int .i64 (K.S : Nat)) ∧ wr.cell? ⟨w.heap.size, 1, none⟩ = some (.int .i64 K.a) ∧ wr.cell? ⟨w.heap.size, 2, none⟩ = some (.int .i64 (K.C : Nat)) ∧ wr.cell? ⟨w.heap.size, 3, none⟩ = some (.int .i64 (K.D : Nat)) ∧ wr.cell? ⟨w.heap.size, 4, none⟩ = some (.int .i64 K.g) ∧ wr.cell? ⟨w.heap.size, 5, none⟩ = some (.int .i64 K.k)) (with_reducible exact al.cfg.cells) (first
            | (go_at_call 14; with_reducible refine (words_T hK al.mem).mono ?_; rintro e w6 ⟨⟨R, X, rfl, hw, tp, hX⟩, hb⟩; replace al := al.below hb; replace hI := hI.below hb; replace old := old.below hb)
            | (go_at_call 19; with_reducible refine (list_T hK hw tp hX).mono ?_; rintro e w6 ⟨v1, rfl, hI1, hv1, hb⟩; have hwM := al.mem.lt; have hwO := old.lt; replace al := al.below hb; replace hI := hI.below hb; replace old := old.below hb))
          clear hw tp hX hb
          have hv2 : ∀ r, v1.ownBlock = some r → r ≠ M ∧ r ≠ G ∧ r ≠ O := fun r hr => by have := hv1 r hr; omega
          have hxs : (0 :: List.range' j (K.S - j)).length ≤ 65536 := by simp; omega
          go_upto_region 24 with fail
          replace al := al.below (Below.refl _ _).drew
          replace hI := hI.below (Below.refl _ _).drew
          replace old := old.below (Below.refl _ _).drew
          replace hI1 := hI1.below (Below.refl _ _).drew
          have q1 := pop_late hK old hO.2.1 hO.2.2 al.mem (by omega) (by omega)
          have z0 := old.c0
          go_region_held (fun wr => wr.cell? ⟨w.heap.size, 0, none⟩ = some (.int .i64 (K.S : Nat)) ∧ wr.cell? ⟨w.heap.size, 1, none⟩ = some (.int .i64 K.a) ∧ wr.cell? ⟨w.heap.size, 2, none⟩ = some (.int .i64 (K.C : Nat)) ∧ wr.cell? ⟨w.heap.size, 3, none⟩ = some (.int .i64 (K.D : Nat)) ∧ wr.cell? ⟨w.heap.size, 4, none⟩ = some (.int .i64 K.g) ∧ wr.cell? ⟨w.heap.size, 5, none⟩ = some (.int .i64 K.k) ∧ wr.cell? ⟨O, 0, none⟩ = some (.int .i64 (-1))) (with_reducible exact mk7 al.cfg z0) (first
            | (go_at_call 21; with_reducible refine q1.mono ?_; rintro e w6 ⟨rfl, ⟨p, hp, hpw, hp1, hp2, hp3⟩, hm3, ch⟩; replace al := al.chg ch (by omega) hm3; replace hI := hI.chg ch (fun r hr => by simp [Value.ownBlock] at hr; simp; omega); replace hI1 := hI1.chg ch (fun r hr => by have := hv2 r hr; simp; omega); clear z0; have z0 := hp.c0 hp1)
            | (go_at_call 14; with_reducible refine (words_T hK al.mem).mono ?_; rintro e w6 ⟨⟨R, X, rfl, hw, tp, hX⟩, hb⟩; replace al := al.below hb; replace hI := hI.below hb; replace hI1 := hI1.below hb; replace hp := hp.below hb; clear z0; have z0 := hp.c0 hp1)
            | (go_at_call 19; with_reducible refine (list_T hK hw tp hX).mono ?_; rintro e w6 ⟨v2, rfl, hI2, _, hb⟩; replace al := al.below hb; replace hI := hI.below hb; replace hI1 := hI1.below hb; replace hp := hp.below hb; clear z0; have z0 := hp.c0 hp1)
            | (go_at_call 18; with_reducible refine (same_yes hI2 hI1 hxs).mono ?_; rintro e w6 ⟨rfl, hb⟩; replace al := al.below hb; replace hI := hI.below hb; replace hp := hp.below hb; clear z0; have z0 := hp.c0 hp1))
          clear hw tp hX q1
          go_upto_region 26 with fail
          clear z0
          replace al := al.below (Below.refl _ _).drew
          replace hI := hI.below (Below.refl _ _).drew
          replace hp := hp.below (Below.refl _ _).drew
          have q1 := pop_alone hK hp hpw hp3 hp2 hO.2.1 hO.2.2 al.mem (by omega) (by omega)
          have cI : ∀ wr', IsI wr' (.slice (some ⟨gg, oo, none⟩) j cp) (List.range' 0 j) → wr'.cell? ⟨gg, oo, none⟩ = some (.int .i64 0) := fun wr' h => by
            have := h.cell 0 (by simp; omega)
            rw [hz0] at this
            exact this
          go_region_with (first
            | (go_at_call 21; with_reducible refine q3.mono ?_; rintro e w8 ⟨rfl, ⟨p4, hp4, h41, h42, h43⟩, hm4, ch⟩; replace al := al.chg ch (by omega) hm4; replace hI := hI.chg ch (fun r hr => by simp [Value.ownBlock] at hr; simp; omega); have z0 := hp4.c0 h41; have z1 := cI _ hI)
            | (go_at_call 21; with_reducible refine q2.mono ?_; rintro e w7 ⟨rfl, q3⟩)
            | (go_at_call 21; with_reducible refine q1.mono ?_; rintro e w6 ⟨rfl, q2⟩)
            | (go_at_call 11; with_reducible refine (c11 _).mono ?_; rintro e w9 ⟨rfl, hb⟩; replace al := al.below hb; replace hI := hI.below hb; replace hp4 := hp4.below hb; clear z0 z1; have z0 := hp4.c0 h41; have z1 := cI _ hI))
          all_goals
            go_wp2
            go_ret
            exact ⟨rfl, al.bel⟩
end Go.Proofs.Ytcfallaekedmkaa
