/- The law of the top's tags, walked. -/
import Derived.Test.YtcfallaekedmkaaSAlone
import Derived.Test.YtcfallaekedmkaaSOpen
namespace Go.Proofs.Ytcfallaekedmkaa
open Go.RowKit
open Mm (IsMem MS zeroMS)
set_option linter.unusedVariables false

/-- So many steps of a machine, and what holds behind them. -/
def Go3 (f P M : Nat) (post : World → Prop) : Nat → World → Prop
  | 0, w => post w
  | n + 1, w => Calls Try.prog f #[.pointer (some ⟨P, 0, none⟩), .pointer (some ⟨M, 0, none⟩)] w fun e w' => (∃ b, e = .returned (.bool b)) ∧ Go3 f P M post n w'
theorem Go3.mono {f P M : Nat} {p q : World → Prop} (h : ∀ w, p w → q w) : ∀ {n : Nat} {w : World}, Go3 f P M p n w → Go3 f P M q n w
  | 0, _, k => h _ k
  | _ + 1, _, k => Calls.mono k fun _ _ ⟨h1, h2⟩ => ⟨h1, Go3.mono h h2⟩
theorem Go3.call {f P M : Nat} {post : World → Prop} {n : Nat} {w : World} (h : Go3 f P M post (n + 1) w) : Calls Try.prog f #[.pointer (some ⟨P, 0, none⟩), .pointer (some ⟨M, 0, none⟩)] w fun e w' => (∃ b, e = .returned (.bool b)) ∧ Go3 f P M post n w' := h

theorem pop3 {K : Cf} (hK : K.Ok) {M G P : Nat} {w : World} {tag s : Nat} {F : List Nat} {T : Int} (hp : IsPopS w P K pop0) (h1 : P ≠ M) (h2 : P ≠ G) (hm : MemT w M G K tag (s :: F) T) (ht : tag + 1 < 281474976710656) (hT : T + 3 < 4611686018427387904) :
    Go3 21 P M (fun w3 => w3.cell? ⟨P, 0, none⟩ = some (.int .i64 (s : Nat)) ∧ MemT w3 M G K (tag + 1) F (T + 3) ∧ Chg [P, M, G] w w3) 3 w :=
  (pop_alone hK hp (pop0_wf K) rfl rfl h1 h2 hm ht hT).mono fun e w1 ⟨he, c1⟩ => ⟨⟨_, he⟩, c1.mono fun e w2 ⟨he, c2⟩ => ⟨⟨_, he⟩, c2.mono fun e w3 ⟨he, ⟨p3, hp3, e1, _, _⟩, hm3, ch⟩ => ⟨⟨_, he⟩, hp3.c0 e1, hm3, ch⟩⟩⟩
theorem pop3_none {K : Cf} (hK : K.Ok) {M G P : Nat} {w : World} {tag : Nat} {T : Int} (hp : IsPopS w P K pop0) (h1 : P ≠ M) (h2 : P ≠ G) (hm : MemT w M G K tag [] T) (hT : T + 3 < 4611686018427387904) :
    Go3 21 P M (fun w3 => w3.cell? ⟨P, 0, none⟩ = some (.int .i64 (-1)) ∧ MemT w3 M G K tag [] (T + 1) ∧ Chg [P, M, G] w w3) 3 w := by
  refine (pop_empty hK hp (pop0_wf K) rfl h1 h2 hm hT).mono fun e w1 ⟨he, ⟨p3, hp3, e1, _, e3⟩, hm3, ch⟩ => ⟨⟨_, he⟩, ?_⟩
  refine (pop_done hp3 e3).mono fun e w2 ⟨he, hw⟩ => ⟨⟨_, he⟩, ?_⟩
  subst hw
  refine (pop_done hp3 e3).mono fun e w2 ⟨he, hw⟩ => ⟨⟨_, he⟩, ?_⟩
  subst hw
  exact ⟨hp3.c0 e1, hm3, ch⟩
theorem push3 {K : Cf} (hK : K.Ok) {M G P : Nat} {w : World} {tag i : Nat} {F : List Nat} {T : Int} (hp : IsPushS w P K ⟨i, 0, 0⟩) (hi : i < K.S) (h1 : P ≠ M) (h2 : P ≠ G) (hm : MemT w M G K tag F T) (hs : i ∉ F) (ht : tag + 1 < 281474976710656) (hT : T + 3 < 4611686018427387904) :
    Go3 24 P M (fun w3 => MemT w3 M G K (tag + 1) (i :: F) (T + 3) ∧ Chg [P, M, G] w w3) 3 w :=
  (push_alone hK hp (push0_wf hi) rfl h1 h2 hm hs ht hT).mono fun e w1 ⟨he, c1⟩ => ⟨⟨_, he⟩, c1.mono fun e w2 ⟨he, c2⟩ => ⟨⟨_, he⟩, c2.mono fun e w3 ⟨he, hm3, ch⟩ => ⟨⟨_, he⟩, hm3, ch⟩⟩⟩

/-- The list and what one has are all slots, each once. -/
def All (K : Cf) (F hs : List Nat) : Prop := (F ++ hs).Perm (List.range' 0 K.S)
theorem All.new (K : Cf) : All K (List.range' 0 K.S) [] := by unfold All; rw [List.append_nil]
theorem All.pop {K : Cf} {F hs : List Nat} {s : Nat} (h : All K (s :: F) hs) : All K F (hs ++ [s]) := by
  unfold All at *
  refine List.Perm.trans ?_ h
  rw [← List.append_assoc]
  exact List.perm_append_singleton s (F ++ hs)
theorem All.push {K : Cf} {F hs : List Nat} {s : Nat} (h : All K F (s :: hs)) : All K (s :: F) hs := by
  unfold All at *
  exact List.Perm.trans List.perm_middle.symm h
theorem All.len {K : Cf} {F hs : List Nat} (h : All K F hs) : F.length + hs.length = K.S := by
  have := h.length_eq
  simpa using this
theorem All.lt {K : Cf} {F hs : List Nat} (h : All K F hs) {x : Nat} (hx : x ∈ hs) : x < K.S := by
  have := h.mem_iff (a := x)
  simp only [List.mem_append, List.mem_range'_1] at this
  have := this.1 (.inr hx)
  omega
theorem All.apart {K : Cf} {F hs : List Nat} {s : Nat} (h : All K F (s :: hs)) : s ∉ F := by
  have hn : (F ++ s :: hs).Nodup := h.nodup_iff.2 List.nodup_range'
  intro hs
  exact (List.nodup_append.1 hn).2.2 s hs s (by simp) rfl

theorem Alo.wide {w wr : World} {K : Cf} {M G tag : Nat} {F : List Nat} {T T' : Int} (h : Alo w wr K M G tag F T) (hT : T ≤ T') : Alo w wr K M G tag F T' := by
  obtain ⟨⟨m, h1, h2, h3, h4⟩, h5, h6, h7, h8⟩ := h
  exact ⟨⟨m, h1, h2, h3, by omega⟩, h5, h6, h7, h8⟩

theorem Alo.grow {w wr w1 : World} {K : Cf} {M G tag : Nat} {F : List Nat} {T : Int} {v : Value} {o : Obj} (h : Alo w wr K M G tag F T) (hg : (wr.alloc o).grownBy w1 v.ownBlock) (ho : ∀ r, v.ownBlock = some r → w.heap.size + 1 ≤ r ∧ r ≠ M ∧ r ≠ G) : Alo w w1 K M G tag F T := by
  have hMG := h.mem.lt
  have hl := h.lt
  have hb : ∀ i, i < wr.heap.size → v.ownBlock ≠ some i → w1.heap[i]? = wr.heap[i]? := fun i hi hn => (hg.block i (by simp; omega) (fun e => hn e.symm)).trans ((alloc_below wr o).block i hi)
  obtain ⟨⟨m, h1, h2⟩, h5, h6, h7, h8⟩ := h
  refine ⟨⟨m, ⟨(hb M (by omega) (fun e => (ho M e).2.1 rfl)).trans h1.head, (hb G (by omega) (fun e => (ho G e).2.2 rfl)).trans h1.row, h1.ne, h1.fits⟩, h2⟩, (hb _ (by omega) (fun e => by have := ho _ e; omega)).trans h5, ?_, h7, h8⟩
  exact ⟨hg.os.trans h6.os, hg.tape.trans h6.tape, hg.output.trans h6.output, Nat.le_trans h6.size (Nat.le_trans (by simp) hg.size), fun i hi => (hb i (by omega) (fun e => by have := ho _ e; omega)).trans (h6.block i hi)⟩
theorem list_F {w : World} {K : Cf} (hK : K.Ok) {R : Nat} {X : List Nat} {tag : Nat} {F : List Nat} (hw : Mm.IsWords w R X) (tp : Top K X tag F) (hX : ∀ i, X.getD i 0 < 18446744073709551616) :
    Calls Try.prog 19 #[.agg K.cs, .slice (some ⟨R, 0, none⟩) K.N K.N] w fun e w' => ∃ ad cap, e = .returned (.slice ad F.length cap) ∧ Below w.heap.size w w' :=
  (list_T hK hw tp hX).mono fun e w' ⟨v, he, hI, _, hb⟩ => by
    obtain ⟨ad, cap, rfl, _⟩ := hI.form
    exact ⟨ad, cap, he, hb⟩

/-- What the loop keeps. -/
structure Tg8 (w wr : World) (K : Cf) (M G tag : Nat) (v : Value) (F hs : List Nat) (T : Int) : Prop where
  al : Alo w wr K M G tag F T
  has : IsI wr v hs
  own : ∀ r, v.ownBlock = some r → w.heap.size + 1 ≤ r ∧ r ≠ M ∧ r ≠ G
  all : All K F hs
theorem Tg8.below {w wr w1 : World} {K : Cf} {M G tag : Nat} {v : Value} {F hs : List Nat} {T : Int} (h : Tg8 w wr K M G tag v F hs T) (b : Below wr.heap.size wr w1) : Tg8 w w1 K M G tag v F hs T := ⟨h.al.below b, h.has.below b, h.own, h.all⟩
theorem Tg8.chg {w wr w1 : World} {K : Cf} {M G P tag tag' : Nat} {v : Value} {F F' hs hs' : List Nat} {T T' : Int} (h : Tg8 w wr K M G tag v F hs T) (b : Chg [P, M, G] wr w1) (hP : w.heap.size + 1 ≤ P) (hv : ∀ r, v.ownBlock = some r → r ≠ P) (hm : MemT w1 M G K tag' F' T') :
    Alo w w1 K M G tag' F' T' ∧ IsI w1 v hs := ⟨h.al.chg b hP hm, h.has.chg b fun r hr => by have := h.own r hr; have := hv r hr; simp; omega⟩

set_option maxRecDepth 100000 in
set_option maxHeartbeats 8000000 in
theorem tags_short (s a c d g k : Int) (ad : Option Addr) (cap : Nat) (Z : List Bool) (w : World) (hC : CameP isB w ad Z) (hZ : Z.length ≤ 200) : Calls Try.prog 8 #[.agg (cs s a c d g k), .slice ad Z.length cap] w fun e w' => e = .returned (.bool true) ∧ Below w.heap.size w w' := by
  have cf := Fit_any s a c d g k
  have bel := alloc_below w (.cells #[.int .i64 s, .int .i64 a, .int .i64 c, .int .i64 d, .int .i64 g, .int .i64 k] 23)
  have hh := cfg_new w s a c d g k
  go_enter Try.func8, Try.ntmps8
  go_upto_region 1 with fail
  generalize w.alloc (.cells #[.int .i64 s, .int .i64 a, .int .i64 c, .int .i64 d, .int .i64 g, .int .i64 k] 23) = w1 at *
  obtain ⟨l0, l1, l2, l3, l4, l5⟩ := hh.cells
  go_upto_region 2 with (first
    | (go_at_call 9; refine (cf _).mono ?_; rintro e w2 ⟨⟨s', a', c', d', g', k', rfl, hs, ha, hc, hd, hg, hk⟩, b⟩; replace bel := seq_below bel b; replace hh := hh.below b; obtain ⟨l0, l1, l2, l3, l4, l5⟩ := hh.cells; have y0 := hh.free 0; have y1 := hh.free 1; have y2 := hh.free 2; have y3 := hh.free 3; have y4 := hh.free 4; have y5 := hh.free 5))
  have h3 := cfg_stored6 hh s' a' c' d' g' k'
  have bel3 := below_stored6 bel (Nat.le_refl w.heap.size) (.int .i64 s') (.int .i64 a') (.int .i64 c') (.int .i64 d') (.int .i64 g') (.int .i64 k')
  clear l0 l1 l2 l3 l4 l5 y0 y1 y2 y3 y4 y5 hh bel cf
  generalize ((((((w2.setCell ⟨w.heap.size, 0, none⟩ (.int .i64 s')).setCell ⟨w.heap.size, 1, none⟩ (.int .i64 a')).setCell ⟨w.heap.size, 2, none⟩ (.int .i64 c')).setCell ⟨w.heap.size, 3, none⟩ (.int .i64 d')).setCell ⟨w.heap.size, 4, none⟩ (.int .i64 g')).setCell ⟨w.heap.size, 5, none⟩ (.int .i64 k')) = w3 at *
  have hr : rightB s' a' c' d' g' k' = true := rightB_iff.2 (by omega)
  clear ha hc hd hg hk
  obtain ⟨K, hK, rfl, rfl, rfl, rfl, rfl, rfl⟩ := Cf.of_right hr
  have c10 := memory_yes hK.r hK.b hK.b8 hK.c8 hK.d16 hK.s64 hK.s1 hK.d1
  rw [show zeroMS (memX K.C K.D K.B (nW K.C K.D K.B K.S) (K.S - 1)) = memK0 K from rfl] at c10
  have hlt3 := h3.lt
  have hh := h3
  have bel := bel3
  clear h3 bel3 hr
  obtain ⟨l0, l1, l2, l3, l4, l5⟩ := hh.cells
  go_upto_region 5 with (first
    | (go_at_call 10; refine (c10 _).mono ?_; rintro e w4 ⟨M, G, rfl, hm, hM, hG, hb⟩))
  have tg : Tg8 w w4 K M G 0 (.slice none 0 0) (List.range' 0 K.S) [] 0 := ⟨⟨mem_T hK hm, hh.below hb, seq_below bel hb, by omega, by omega⟩, IsI.nil _, (fun r hr => by cases hr), All.new K⟩
  clear l0 l1 l2 l3 l4 l5 hm hM hG hb hh bel hlt3 c10
  have hS : K.S ≤ 12 := by omega
  have c20 := newPop_K hK
  have c11 := awake_any
  have hCc : ∀ i, i < Z.length → ∃ b off, ad = some ⟨b, off, none⟩ ∧ b < w.heap.size ∧ w.cell? ⟨b, off + i, none⟩ = some (.bool (Z.getD i false)) := fun i hi => by
    obtain ⟨b, off, v, e, hb, hc, hv⟩ := hC i hi
    refine ⟨b, off, e, hb, ?_⟩
    rw [hc, show v = .bool Z[i] from hv]
    simp [hi]
  clear hC
  generalize Z.length = n at *
  go_wp2
  go_loopw [6, 7, 8] (fun v x i wr => ∃ (j tag : Nat) (F hs : List Nat), j ≤ n ∧ i = .int .i64 j ∧ x = .int .u64 tag ∧ tag ≤ j ∧ Tg8 w wr K M G tag v F hs (3 * j)) (fun _ _ i _ => n - (intOf i).toNat)
  case atStart => exact ⟨0, 0, _, _, Nat.zero_le _, rfl, rfl, Nat.le_refl _, tg⟩
  case round =>
    clear tg
    obtain ⟨j, tag, F, hs, hj, rfl, rfl, htag, tg⟩ := hrel
    obtain ⟨l0, l1, l2, l3, l4, l5⟩ := tg.al.cfg.cells
    by_cases hjn : j < n
    · obtain ⟨b, off, rfl, hbl, q⟩ := hCc j hjn
      replace q := (tg.al.bel.cell (p := ⟨b, off + j, none⟩) hbl).trans q
      clear hCc
      generalize Z.getD j false = z at *
      cases z
      · cases hs with
        | nil =>
          obtain ⟨ad2, cp, hv, hcp, _⟩ := tg.has.form
          subst hv
          replace tg : Tg8 w _ K M G tag _ F [] (3 * ((j + 1 : Nat) : Int)) := ⟨tg.al.wide (by omega), tg.has, tg.own, tg.all⟩
          clear l0 l1 l2 l3 l4 l5
          have cw := words_T hK tg.al.mem
          have tgl := tg.al.mem.lt
          go_wp2_with (go_at_call 14; refine cw.mono ?_; rintro e w7 ⟨⟨R, X, rfl, hw, tp, hX⟩, hb⟩; replace tg := tg.below hb; have hx := hX 3; have q3 := (RdW.of_words hw).2 3 (by have := tp.len; have := hK.N_b; omega); have hN4 := hK.N_b; have ht3 := tp.tg; generalize X.getD 3 0 = x3 at hx q3 ht3; have ht4 : (x3 : Int) / 65536 = (tag : Int) := by omega)
          go_roundw
          case rel => exact ⟨j + 1, tag, _, _, by omega, by go_num, by go_num, by omega, tg⟩
          case measure => simp [intOf]; omega
        | cons h hs =>
          obtain ⟨ad2, cp, hv, hcp, hf⟩ := tg.has.form
          obtain ⟨gg, oo, rfl⟩ := hf (by simp)
          rw [List.length_cons] at hv hcp
          subst hv
          have hhS := tg.all.lt (x := h) (by simp)
          have c23 := newPush_K hK h hhS
          have hlen := tg.all.len
          simp only [List.length_cons] at hlen
          have q0 : ∀ wr', Tg8 w wr' K M G tag (.slice (some ⟨gg, oo, none⟩) (hs.length + 1) cp) F (h :: hs) (3 * j) → wr'.cell? ⟨w.heap.size, 0, none⟩ = some (.int .i64 (K.S : Nat)) ∧ wr'.cell? ⟨w.heap.size, 1, none⟩ = some (.int .i64 K.a) ∧ wr'.cell? ⟨w.heap.size, 2, none⟩ = some (.int .i64 (K.C : Nat)) ∧ wr'.cell? ⟨w.heap.size, 3, none⟩ = some (.int .i64 (K.D : Nat)) ∧ wr'.cell? ⟨w.heap.size, 4, none⟩ = some (.int .i64 K.g) ∧ wr'.cell? ⟨w.heap.size, 5, none⟩ = some (.int .i64 K.k) ∧ wr'.cell? ⟨gg, oo, none⟩ = some (.int .i64 (h : Nat)) := fun wr' t => by
            obtain ⟨l0, l1, l2, l3, l4, l5⟩ := t.al.cfg.cells
            exact ⟨l0, l1, l2, l3, l4, l5, t.has.cell 0 (by simp)⟩
          go_upto_region 20 with fail
          have hMG := tg.al.mem.lt
          have hl := tg.al.lt
          have hgg := tg.has.lt (g := gg) rfl
          replace tg := tg.below (Below.refl wr.heap.size wr).drew
          clear l0 l1 l2 l3 l4 l5
          go_region_held (fun wr => wr.cell? ⟨w.heap.size, 0, none⟩ = some (.int .i64 (K.S : Nat)) ∧ wr.cell? ⟨w.heap.size, 1, none⟩ = some (.int .i64 K.a) ∧ wr.cell? ⟨w.heap.size, 2, none⟩ = some (.int .i64 (K.C : Nat)) ∧ wr.cell? ⟨w.heap.size, 3, none⟩ = some (.int .i64 (K.D : Nat)) ∧ wr.cell? ⟨w.heap.size, 4, none⟩ = some (.int .i64 K.g) ∧ wr.cell? ⟨w.heap.size, 5, none⟩ = some (.int .i64 K.k) ∧ wr.cell? ⟨gg, oo, none⟩ = some (.int .i64 (h : Nat))) (with_reducible exact q0 _ tg) (first
            | (go_at_call 23; with_reducible refine (c23 _).mono ?_; rintro e w5 ⟨P, rfl, hp, hP, hb⟩; replace tg := tg.below hb))
          replace hP : wr.heap.size ≤ P := hP
          have q1 := push3 hK hp hhS (by omega) (by omega) tg.al.mem tg.all.apart (by omega) (by omega)
          clear q0 hp c23
          go_wp2
          go_loopw [12] (fun kk wr' => ∃ i : Nat, i ≤ 3 ∧ kk = .int .i64 i ∧ Go3 24 P M (fun w3 => MemT w3 M G K (tag + 1) (h :: F) (3 * j + 3) ∧ Chg [P, M, G] w5 w3) (3 - i) wr') (fun kk _ => 3 - (intOf kk).toNat)
          case atStart => exact ⟨0, by omega, rfl, q1⟩
          case round =>
            clear q1
            obtain ⟨i, hi3, rfl, q1⟩ := hrel
            by_cases hi : i < 3
            · rw [show 3 - i = (3 - (i + 1)) + 1 by omega] at q1
              have q2 := q1.call
              clear q1
              go_wp2_with (go_at_call 24; refine q2.mono ?_; rintro e w6 ⟨⟨bb, rfl⟩, q3⟩)
              go_roundw
              case rel => exact ⟨i + 1, by omega, by go_num, q3⟩
              case measure => simp [intOf]; omega
            · obtain rfl : i = 3 := by omega
              obtain ⟨hm3, ch⟩ := q1
              obtain ⟨al, hI⟩ := tg.chg (F' := h :: F) (hs' := hs) ch (by omega) (fun r hr => by simp [Value.ownBlock] at hr; omega) hm3
              have hall := tg.all.push
              have hown := tg.own gg rfl
              clear hm3 ch
              replace tg : Tg8 w _ K M G (tag + 1) (.slice (if cp = 1 then some ⟨gg, oo, none⟩ else some ⟨gg, oo + 1, none⟩) hs.length (cp - 1)) (h :: F) hs (3 * ((j + 1 : Nat) : Int)) := ⟨al.wide (by omega), hI.tails, (fun r hr => by split at hr <;> simp [Value.ownBlock] at hr <;> omega), hall⟩
              clear al hI hall
              have cw := words_T hK tg.al.mem
              have tgl := tg.al.mem.lt
              go_wp2_with (go_at_call 14; refine cw.mono ?_; rintro e w7 ⟨⟨R, X, rfl, hw, tp, hX⟩, hb⟩; replace tg := tg.below hb; have hx := hX 3; have q3 := (RdW.of_words hw).2 3 (by have := tp.len; have := hK.N_b; omega); have hN4 := hK.N_b; have ht3 := tp.tg; generalize X.getD 3 0 = x3 at hx q3 ht3; have ht4 : (x3 : Int) / 65536 = ((tag + 1 : Nat) : Int) := by omega)
              go_roundw
              case rel => exact ⟨j + 1, tag + 1, _, _, by omega, by go_num, by go_num, by omega, tg⟩
              case measure => simp [intOf]; omega
      · go_upto_region 12 with (go_at_call 20; refine (c20 _).mono ?_; rintro e w5 ⟨P, rfl, hp, hP, hb⟩)
        have hMG := tg.al.mem.lt
        have hl := tg.al.lt
        have hlen := tg.all.len
        have hPu : ∀ r, u6.ownBlock = some r → r ≠ P := fun r hr => by have := tg.has.lt hr; omega
        replace tg := tg.below hb
        clear l0 l1 l2 l3 l4 l5 hb
        cases F with
        | nil =>
          have q1 := pop3_none hK hp (by omega) (by omega) tg.al.mem (by omega)
          clear hp
          go_wp2
          go_loopw [10] (fun kk wr' => ∃ i : Nat, i ≤ 3 ∧ kk = .int .i64 i ∧ Go3 21 P M (fun w3 => w3.cell? ⟨P, 0, none⟩ = some (.int .i64 (-1)) ∧ MemT w3 M G K tag [] (3 * j + 1) ∧ Chg [P, M, G] w5 w3) (3 - i) wr') (fun kk _ => 3 - (intOf kk).toNat)
          case atStart => exact ⟨0, by omega, rfl, q1⟩
          case round =>
            clear q1
            obtain ⟨i, hi3, rfl, q1⟩ := hrel
            by_cases hi : i < 3
            · rw [show 3 - i = (3 - (i + 1)) + 1 by omega] at q1
              have q2 := q1.call
              clear q1
              go_wp2_with (go_at_call 21; refine q2.mono ?_; rintro e w6 ⟨⟨bb, rfl⟩, q3⟩)
              go_roundw
              case rel => exact ⟨i + 1, by omega, by go_num, q3⟩
              case measure => simp [intOf]; omega
            · obtain rfl : i = 3 := by omega
              obtain ⟨z0, hm3, ch⟩ := q1
              obtain ⟨al, hI⟩ := tg.chg (F' := []) (hs' := hs) ch (by omega) hPu hm3
              clear hm3 ch
              replace tg : Tg8 w _ K M G tag u6 [] hs (3 * ((j + 1 : Nat) : Int)) := ⟨al.wide (by omega), hI, tg.own, tg.all⟩
              clear al hI
              have cw := words_T hK tg.al.mem
              have tgl := tg.al.mem.lt
              go_wp2_with (go_at_call 14; refine cw.mono ?_; rintro e w7 ⟨⟨R, X, rfl, hw, tp, hX⟩, hb⟩; replace tg := tg.below hb; have hx := hX 3; have q3 := (RdW.of_words hw).2 3 (by have := tp.len; have := hK.N_b; omega); have hN4 := hK.N_b; have ht3 := tp.tg; generalize X.getD 3 0 = x3 at hx q3 ht3; have ht4 : (x3 : Int) / 65536 = (tag : Int) := by omega)
              go_roundw
              case rel => exact ⟨j + 1, tag, _, _, by omega, by go_num, by go_num, by omega, tg⟩
              case measure => simp [intOf]; omega
        | cons x F =>
          have q1 := pop3 hK hp (by omega) (by omega) tg.al.mem (by omega) (by omega)
          clear hp
          simp only [List.length_cons] at hlen
          go_wp2
          go_loopw [10] (fun kk wr' => ∃ i : Nat, i ≤ 3 ∧ kk = .int .i64 i ∧ Go3 21 P M (fun w3 => w3.cell? ⟨P, 0, none⟩ = some (.int .i64 (x : Nat)) ∧ MemT w3 M G K (tag + 1) F (3 * j + 3) ∧ Chg [P, M, G] w5 w3) (3 - i) wr') (fun kk _ => 3 - (intOf kk).toNat)
          case atStart => exact ⟨0, by omega, rfl, q1⟩
          case round =>
            clear q1
            obtain ⟨i, hi3, rfl, q1⟩ := hrel
            by_cases hi : i < 3
            · rw [show 3 - i = (3 - (i + 1)) + 1 by omega] at q1
              have q2 := q1.call
              clear q1
              go_wp2_with (go_at_call 21; refine q2.mono ?_; rintro e w6 ⟨⟨bb, rfl⟩, q3⟩)
              go_roundw
              case rel => exact ⟨i + 1, by omega, by go_num, q3⟩
              case measure => simp [intOf]; omega
            · obtain rfl : i = 3 := by omega
              obtain ⟨z0, hm3, ch⟩ := q1
              obtain ⟨al, hI⟩ := tg.chg (F' := F) (hs' := hs) ch (by omega) hPu hm3
              have hown := tg.own
              have hall := tg.all.pop
              clear hm3 ch
              have hx0 : (0 : Int) ≤ (x : Nat) := by omega
              go_wp2_with (at_builtin; refine wpList_append_ints rfl _ _ rfl _ hs [x] rfl (hI.below (alloc_below _ _)) ⟨_, 0, none⟩ 1 1 rfl rfl (by simp) (one_new _ _ _) ?c3 ?_)
              case c3 => simp; omega
              intro v' w7 hI' hg hp'
              have hMG2 := al.mem.lt
              have hl2 := al.lt
              replace tg : Tg8 w _ K M G (tag + 1) v' F (hs ++ [x]) (3 * ((j + 1 : Nat) : Int)) := ⟨(al.grow hg hown).wide (by omega), hI', (fun r hr => by
                rcases hp' with e | ⟨r', e, hr'⟩
                · exact hown r (e ▸ hr)
                · rw [hr] at e; simp at e; omega), hall⟩
              clear al hI hI' hg hp' hall z0
              have cw := words_T hK tg.al.mem
              have tgl := tg.al.mem.lt
              go_wp2_with (go_at_call 14; refine cw.mono ?_; rintro e w8 ⟨⟨R, X, rfl, hw, tp, hX⟩, hb⟩; replace tg := tg.below hb; have hx := hX 3; have q3 := (RdW.of_words hw).2 3 (by have := tp.len; have := hK.N_b; omega); have hN4 := hK.N_b; have ht3 := tp.tg; generalize X.getD 3 0 = x3 at hx q3 ht3; have ht4 : (x3 : Int) / 65536 = ((tag + 1 : Nat) : Int) := by omega)
              go_roundw
              case rel => exact ⟨j + 1, tag + 1, _, _, by omega, by go_num, by go_num, by omega, tg⟩
              case measure => simp [intOf]; omega
    · have cl := fun w R X hw tp hX => list_F (w := w) hK (R := R) (X := X) (F := F) (tag := tag) hw tp hX
      have hEq : (K.S : Int) - (hs.length : Int) = (F.length : Int) := by have := tg.all.len; omega
      have hle1 : (hs.length : Int) ≤ 12 := by have := tg.all.len; omega
      have hle2 : (F.length : Int) ≤ 12 := by have := tg.all.len; omega
      have hge1 : (0 : Int) ≤ hs.length := by omega
      have hge2 : (0 : Int) ≤ F.length := by omega
      obtain ⟨ad2, cp2, hv, _, _⟩ := tg.has.form
      subst hv
      have al := tg.al
      have hjn2 : (n : Int) ≤ (j : Int) := by omega
      clear tg l0 l1 l2 l3 l4 l5 hCc hj htag hjn
      generalize F.length = fn at *
      generalize hs.length = hn at *
      go_upto_region 29 with fail
      clear hjn2
      replace al := al.below (Below.refl wr.heap.size wr).drew
      replace hEq : IntKind.i64.wrap ((K.S : Int) - (hn : Int)) = (fn : Int) := by rw [hEq, IntKind.wrap_i64]; omega
      clear hle1 hle2 hge1 hge2
      go_region_held (fun wr => wr.cell? ⟨w.heap.size, 0, none⟩ = some (.int .i64 (K.S : Nat)) ∧ wr.cell? ⟨w.heap.size, 1, none⟩ = some (.int .i64 K.a) ∧ wr.cell? ⟨w.heap.size, 2, none⟩ = some (.int .i64 (K.C : Nat)) ∧ wr.cell? ⟨w.heap.size, 3, none⟩ = some (.int .i64 (K.D : Nat)) ∧ wr.cell? ⟨w.heap.size, 4, none⟩ = some (.int .i64 K.g) ∧ wr.cell? ⟨w.heap.size, 5, none⟩ = some (.int .i64 K.k)) (with_reducible exact al.cfg.cells) (first
        | (go_at_call 14; with_reducible refine (words_T hK al.mem).mono ?_; rintro e w6 ⟨⟨R, X, rfl, hw, tp, hX⟩, hb⟩; replace al := al.below hb)
        | (go_at_call 19; with_reducible refine (cl _ _ _ hw tp hX).mono ?_; clear hX; rintro e w6 ⟨ad3, cp3, rfl, hb⟩; replace al := al.below hb)
        | (go_at_call 11; with_reducible refine (c11 _).mono ?_; rintro e w6 ⟨rfl, hb⟩; replace al := al.below hb))
      all_goals
        go_wp2
        go_ret
        exact ⟨rfl, al.bel⟩

set_option maxHeartbeats 2000000 in
theorem tags_long (s a c d g k : Int) (ad : Option Addr) (n cap : Nat) (w : World) (hn : 200 < n) : Calls Try.prog 8 #[.agg (cs s a c d g k), .slice ad n cap] w fun e w' => e = .returned (.bool true) ∧ Below w.heap.size w w' := by
  have cf := Fit_any s a c d g k
  have bel := alloc_below w (.cells #[.int .i64 s, .int .i64 a, .int .i64 c, .int .i64 d, .int .i64 g, .int .i64 k] 23)
  have hh := cfg_new w s a c d g k
  go_enter Try.func8, Try.ntmps8
  go_upto_region 1 with fail
  generalize w.alloc (.cells #[.int .i64 s, .int .i64 a, .int .i64 c, .int .i64 d, .int .i64 g, .int .i64 k] 23) = w1 at *
  obtain ⟨l0, l1, l2, l3, l4, l5⟩ := hh.cells
  go_upto_region 2 with (first
    | (go_at_call 9; refine (cf _).mono ?_; rintro e w2 ⟨⟨s', a', c', d', g', k', rfl, hs, ha, hc, hd, hg, hk⟩, b⟩; replace bel := seq_below bel b; replace hh := hh.below b; obtain ⟨l0, l1, l2, l3, l4, l5⟩ := hh.cells; have y0 := hh.free 0; have y1 := hh.free 1; have y2 := hh.free 2; have y3 := hh.free 3; have y4 := hh.free 4; have y5 := hh.free 5))
  have h3 := cfg_stored6 hh s' a' c' d' g' k'
  have bel3 := below_stored6 bel (Nat.le_refl w.heap.size) (.int .i64 s') (.int .i64 a') (.int .i64 c') (.int .i64 d') (.int .i64 g') (.int .i64 k')
  clear l0 l1 l2 l3 l4 l5 y0 y1 y2 y3 y4 y5 hh bel cf
  generalize ((((((w2.setCell ⟨w.heap.size, 0, none⟩ (.int .i64 s')).setCell ⟨w.heap.size, 1, none⟩ (.int .i64 a')).setCell ⟨w.heap.size, 2, none⟩ (.int .i64 c')).setCell ⟨w.heap.size, 3, none⟩ (.int .i64 d')).setCell ⟨w.heap.size, 4, none⟩ (.int .i64 g')).setCell ⟨w.heap.size, 5, none⟩ (.int .i64 k')) = w3 at *
  have hr : rightB s' a' c' d' g' k' = true := rightB_iff.2 (by omega)
  clear ha hc hd hg hk
  obtain ⟨K, hK, rfl, rfl, rfl, rfl, rfl, rfl⟩ := Cf.of_right hr
  have c10 := memory_yes hK.r hK.b hK.b8 hK.c8 hK.d16 hK.s64 hK.s1 hK.d1
  rw [show zeroMS (memX K.C K.D K.B (nW K.C K.D K.B K.S) (K.S - 1)) = memK0 K from rfl] at c10
  have hlt3 := h3.lt
  have hh := h3
  have bel := bel3
  clear h3 bel3 hr
  obtain ⟨l0, l1, l2, l3, l4, l5⟩ := hh.cells
  have c11 := awake_any
  go_wp2_with (first
    | (go_at_call 10; refine (c10 _).mono ?_; rintro e w4 ⟨M, G, rfl, hm, hM, hG, hb⟩; replace bel := seq_below bel hb)
    | (go_at_call 11; refine (c11 _).mono ?_; rintro e w5 ⟨rfl, hb2⟩; replace bel := seq_below bel hb2))
  go_ret
  exact ⟨rfl, bel⟩

theorem tags_law (s a c d g k : Int) (ad : Option Addr) (cap : Nat) (Z : List Bool) (w : World) (hC : CameP isB w ad Z) : Calls Try.prog 8 #[.agg (cs s a c d g k), .slice ad Z.length cap] w fun e w' => e = .returned (.bool true) ∧ Below w.heap.size w w' := by
  by_cases hZ : Z.length ≤ 200
  · exact tags_short s a c d g k ad cap Z w hC hZ
  · exact tags_long s a c d g k ad _ cap w (by omega)
end Go.Proofs.Ytcfallaekedmkaa
