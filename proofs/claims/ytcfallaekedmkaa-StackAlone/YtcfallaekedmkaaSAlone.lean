/- The law of one alone, walked. -/
import Derived.Test.YtcfallaekedmkaaSLone
namespace Go.Proofs.Ytcfallaekedmkaa
open Go.RowKit
open Mm (IsMem MS zeroMS)

/-- All that is known of the world while one works alone. -/
structure Alo (w wr : World) (K : Cf) (M G tag : Nat) (F : List Nat) (T : Int) : Prop where
  mem : MemT wr M G K tag F T
  cfg : IsCfg wr w.heap.size K.S K.a K.C K.D K.g K.k
  bel : Below w.heap.size w wr
  hM : w.heap.size + 1 ≤ M
  hG : w.heap.size + 1 ≤ G

theorem Alo.below {w wr w1 : World} {K : Cf} {M G tag : Nat} {F : List Nat} {T : Int} (h : Alo w wr K M G tag F T) (b : Below wr.heap.size wr w1) : Alo w w1 K M G tag F T :=
  ⟨h.mem.below b, h.cfg.below b, h.bel.trans (b.mono h.bel.size), h.hM, h.hG⟩
theorem Alo.chg {w wr w1 : World} {K : Cf} {M G P tag tag' : Nat} {F F' : List Nat} {T T' : Int} (h : Alo w wr K M G tag F T) (b : Chg [P, M, G] wr w1) (hP : w.heap.size + 1 ≤ P) (hm : MemT w1 M G K tag' F' T') : Alo w w1 K M G tag' F' T' :=
  ⟨hm, h.cfg.chg b (by have := h.hM; have := h.hG; simp; omega), b.below h.bel (by have := h.hM; have := h.hG; simp; omega) (Nat.le_refl _), h.hM, h.hG⟩
theorem Alo.lt {w wr : World} {K : Cf} {M G tag : Nat} {F : List Nat} {T : Int} (h : Alo w wr K M G tag F T) : w.heap.size + 1 ≤ wr.heap.size := h.cfg.lt

theorem IsPopS.c0 {w : World} {P : Nat} {K : Cf} {p : PS} {x : Int} (h : IsPopS w P K p) (e : p.sl = x) : w.cell? ⟨P, 0, none⟩ = some (.int .i64 x) := e ▸ (IsPop.cells h).1
theorem IsPopS.c1 {w : World} {P : Nat} {K : Cf} {p : PS} {x : Bool} (h : IsPopS w P K p) (e : p.em = x) : w.cell? ⟨P, 1, none⟩ = some (.bool x) := e ▸ (IsPop.cells h).2.1

/-- A new Pop. -/
theorem newPop_K {K : Cf} (hK : K.Ok) (w : World) : Calls Try.prog 20 #[.agg K.cs] w fun e w' => ∃ P, e = .returned (.pointer (some ⟨P, 0, none⟩)) ∧ IsPopS w' P K pop0 ∧ w.heap.size ≤ P ∧ Below w.heap.size w w' := newPop_yes hK.r w
theorem newPush_K {K : Cf} (hK : K.Ok) (i : Nat) (hi : i < K.S) (w : World) : Calls Try.prog 23 #[.agg K.cs, .int .i64 (i : Nat)] w fun e w' => ∃ P, e = .returned (.pointer (some ⟨P, 0, none⟩)) ∧ IsPushS w' P K ⟨i, 0, 0⟩ ∧ w.heap.size ≤ P ∧ Below w.heap.size w w' := newPush_yes hK i hi w
theorem pop0_wf (K : Cf) : PWf K pop0 := ⟨by decide, by decide, by intro h; cases h⟩
theorem push0_wf {K : Cf} {i : Nat} (hi : i < K.S) : QWf K ⟨i, 0, 0⟩ := ⟨by show 0 ≤ 3; omega, by show 0 < _; omega, hi⟩

/-- The words of a memory, and stack's list of them. -/
theorem words_T {w : World} {K : Cf} (hK : K.Ok) {M G tag : Nat} {F : List Nat} {T : Int} (h : MemT w M G K tag F T) :
    Calls Try.prog 14 #[.pointer (some ⟨M, 0, none⟩)] w fun e w' => (∃ R X, e = .returned (.slice (some ⟨R, 0, none⟩) K.N K.N) ∧ Mm.IsWords w' R X ∧ Top K X tag F ∧ (∀ i, X.getD i 0 < 18446744073709551616)) ∧ Below w.heap.size w w' := by
  obtain ⟨m, hm, tp, _⟩ := h
  have hN := hK.N_b
  have c := Mm.words_any hm (by have := tp.len; omega)
  rw [tp.len] at c
  exact c.mono fun e w' ⟨R, he, hw, _, hb⟩ => ⟨⟨R, m.X, he, hw, tp, fun i => hm.word_lt i⟩, hb⟩
theorem list_T {w : World} {K : Cf} (hK : K.Ok) {R : Nat} {X : List Nat} {tag : Nat} {F : List Nat} (hw : Mm.IsWords w R X) (tp : Top K X tag F) (hX : ∀ i, X.getD i 0 < 18446744073709551616) :
    Calls Try.prog 19 #[.agg K.cs, .slice (some ⟨R, 0, none⟩) K.N K.N] w fun e w' => ∃ v, e = .returned v ∧ IsI w' v F ∧ (∀ g, v.ownBlock = some g → w.heap.size ≤ g) ∧ Below w.heap.size w w' := by
  have c := slist_yes hK (cap := K.N) (RdW.of_words hw) tp.len hX
  rw [tp.list] at c
  exact c

theorem touches_T {w : World} {M G : Nat} {K : Cf} {tag : Nat} {F : List Nat} {T : Int} (h : MemT w M G K tag F T) : ∃ t : Int, Calls Try.prog 22 #[.pointer (some ⟨M, 0, none⟩)] w fun e w' => e = .returned (.int .i64 t) ∧ w = w' := by
  obtain ⟨m, hm, _⟩ := h
  exact ⟨_, Mm.touches_any hm⟩
theorem mem_T {w : World} {K : Cf} (hK : K.Ok) {M G : Nat} (h : IsMem w M G (memK0 K)) : MemT w M G K 0 (List.range' 0 K.S) 0 := ⟨_, h, top_new hK, Int.le_refl _, Int.le_refl _⟩

theorem grown_below {wr w1 : World} {o : Obj} {r : Option Nat} (hg : (wr.alloc o).grownBy w1 r) (hr : r = some wr.heap.size ∨ r = none) : Below wr.heap.size wr w1 :=
  ⟨hg.os, hg.tape, hg.output, Nat.le_trans (by simp) hg.size, fun i hi => (hg.block i (by simp; omega) (by rcases hr with rfl | rfl <;> simp; omega)).trans ((alloc_below wr o).block i hi)⟩
theorem one_int (w : World) (n : Nat) : IsI (w.alloc (.cells #[.int .i64 (n : Nat)] 3)) (.slice (some ⟨w.heap.size, 0, none⟩) 1 1) [n] :=
  .inr ⟨w.heap.size, 0, 1, _, rfl, (MapKept.heap_alloc w _).1, Nat.le_refl _, by decide, Nat.le_refl _, fun i hi => by
    have : i = 0 := by simpa using hi
    subst this
    rfl⟩
theorem one_row (w : World) (n : Nat) : (w.alloc (.cells #[.int .i64 (n : Nat)] 3)).ownsRow w.heap.size 3 1 (.slice (some ⟨w.heap.size, 0, none⟩) 1 1) 1 [.int .i64 (n : Nat)] :=
  ⟨rfl, .inr ⟨w.heap.size, 1, _, rfl, Nat.le_refl _, (MapKept.heap_alloc w _).1, Nat.le_refl _, by decide, rfl, rfl⟩⟩

theorem IsI.src {w : World} {g off n cap : Nat} {xs : List Nat} (h : IsI w (.slice (some ⟨g, off, none⟩) n cap) xs) : ∀ j u, (ints xs)[j]? = some u → w.cell? ((⟨g, off, none⟩ : Addr).add j) = some u := by
  intro j u hj
  have hjl : j < xs.length := by
    have := (List.getElem?_eq_some_iff.1 hj).1
    rwa [ints_len] at this
  rw [ints_get xs j hjl] at hj
  rw [Mm.add_none, h.cell j hjl]
  exact hj

def rv (n : Nat) : List Nat := (List.range n).reverse
theorem rv_succ (n : Nat) : rv (n + 1) = n :: rv n := by simp [rv, List.range_succ]
theorem rv_mem (n x : Nat) : x ∈ rv n ↔ x < n := by simp [rv]
theorem rv_len (n : Nat) : (rv n).length = n := by simp [rv]

set_option maxHeartbeats 8000000 in
theorem alone_law (s a c d g k : Int) (w : World) : Calls Try.prog 5 #[.agg (cs s a c d g k)] w fun e w' => e = .returned (.bool true) ∧ Below w.heap.size w w' := by
  have cf := Fit_any s a c d g k
  have bel := alloc_below w (.cells #[.int .i64 s, .int .i64 a, .int .i64 c, .int .i64 d, .int .i64 g, .int .i64 k] 23)
  have hh := cfg_new w s a c d g k
  go_enter Try.func5, Try.ntmps5
  go_upto_region 1 with fail
  generalize w.alloc (.cells #[.int .i64 s, .int .i64 a, .int .i64 c, .int .i64 d, .int .i64 g, .int .i64 k] 23) = w1 at *
  obtain ⟨l0, l1, l2, l3, l4, l5⟩ := hh.cells
  go_upto_region 2 with (first
    | (go_at_call 9; refine (cf _).mono ?_; rintro e w2 ⟨⟨s', a', c', d', g', k', rfl, hs, ha, hc, hd, hg, hk⟩, b⟩; replace bel := seq_below bel b; replace hh := hh.below b; obtain ⟨l0, l1, l2, l3, l4, l5⟩ := hh.cells; have y0 := hh.free 0; have y1 := hh.free 1; have y2 := hh.free 2; have y3 := hh.free 3; have y4 := hh.free 4; have y5 := hh.free 5))
  have h3 := cfg_stored6 hh s' a' c' d' g' k'
  have bel3 := below_stored6 bel (Nat.le_refl w.heap.size) (.int .i64 s') (.int .i64 a') (.int .i64 c') (.int .i64 d') (.int .i64 g') (.int .i64 k')
  clear l0 l1 l2 l3 l4 l5 y0 y1 y2 y3 y4 y5 hh bel cf
  generalize ((((((w2.setCell ⟨w.heap.size, 0, none⟩ (.int .i64 s')).setCell ⟨w.heap.size, 1, none⟩ (.int .i64 a')).setCell ⟨w.heap.size, 2, none⟩ (.int .i64 c')).setCell ⟨w.heap.size, 3, none⟩ (.int .i64 d')).setCell ⟨w.heap.size, 4, none⟩ (.int .i64 g')).setCell ⟨w.heap.size, 5, none⟩ (.int .i64 k')) = w3 at *
  have hr : rightB s' a' c' d' g' k' = true := rightB_iff.2 (by omega)
  clear ha hc hd hg hk
  obtain ⟨K, hK, rfl, rfl, rfl, rfl, rfl, rfl⟩ := Cf.of_right hr
  have c10 := memory_yes hK.r hK.b hK.b8 hK.c8 hK.d16 hK.s64 hK.s1 hK.d1
  rw [show zeroMS (memX K.C K.D K.B (nW K.C K.D K.B K.S) (K.S - 1)) = memK0 K from rfl] at c10
  have hlt3 := h3.lt
  have hh := h3
  have bel := bel3
  clear h3 bel3 hr
  obtain ⟨l0, l1, l2, l3, l4, l5⟩ := hh.cells
  go_upto_region 5 with (first
    | (go_at_call 10; refine (c10 _).mono ?_; rintro e w4 ⟨M, G, rfl, hm, hM, hG, hb⟩))
  have al : Alo w w4 K M G 0 (List.range' 0 K.S) 0 := ⟨mem_T hK hm, hh.below hb, seq_below bel hb, by omega, by omega⟩
  clear l0 l1 l2 l3 l4 l5 hm hM hG hb hh bel hlt3 c10
  have hS : K.S ≤ 12 := by omega
  have c20 := newPop_K hK
  have c11 := awake_any
  obtain ⟨i0, hi, hz0, hz1, hz2⟩ := info_parts Try.info3
  obtain ⟨l0, l1, l2, l3, l4, l5⟩ := al.cfg.cells
  go_wp2
  go_loopw [4] (fun i wr => ∃ n : Nat, n ≤ K.S ∧ i = .int .i64 n ∧ Alo w wr K M G n (List.range' n (K.S - n)) (3 * n)) (fun i _ => K.S - (intOf i).toNat)
  case atStart => exact ⟨0, Nat.zero_le _, rfl, al⟩
  case round =>
    clear al l0 l1 l2 l3 l4 l5
    obtain ⟨n, hn, rfl, al⟩ := hrel
    obtain ⟨l0, l1, l2, l3, l4, l5⟩ := al.cfg.cells
    by_cases hnS : n < K.S
    · rw [show K.S - n = (K.S - (n + 1)) + 1 by omega, List.range'_succ] at al
      go_upto_region 9 with (go_at_call 20; refine (c20 _).mono ?_; rintro e w5 ⟨P, rfl, hp, hP, hb⟩)
      have hl := al.lt
      have hne : P ≠ M ∧ P ≠ G := by have := al.mem.lt; omega
      replace al := al.below hb
      have q1 := pop_alone hK hp (pop0_wf K) rfl rfl hne.1 hne.2 al.mem (by omega) (by omega)
      clear l0 l1 l2 l3 l4 l5 hb
      go_wp2_with (first
        | (go_at_call 21; with_reducible refine (pop_done hp4 h43).mono ?_; rintro e w9 ⟨rfl, rfl⟩)
        | (go_at_call 21; with_reducible refine q3.mono ?_; rintro e w8 ⟨rfl, ⟨p4, hp4, h41, h42, h43⟩, hm4, ch⟩; replace al := al.chg ch (by omega) hm4; have z0 := hp4.c0 h41; have z1 := hp4.c1 h42)
        | (go_at_call 21; with_reducible refine q2.mono ?_; rintro e w7 ⟨rfl, q3⟩)
        | (go_at_call 21; with_reducible refine q1.mono ?_; rintro e w6 ⟨rfl, q2⟩))
      go_roundw
      case rel => exact ⟨n + 1, by omega, by go_num, by rw [show (3 * ((n + 1 : Nat) : Int)) = 3 * (n : Int) + 3 by omega]; exact al⟩
      case measure => simp [intOf]; omega
    · have hnn : n = K.S := by omega
      subst hnn
      rw [Nat.sub_self] at al
      go_upto_region 12 with (go_at_call 20; refine (c20 _).mono ?_; rintro e w5 ⟨P, rfl, hp, hP, hb⟩)
      have hl := al.lt
      have hne : P ≠ M ∧ P ≠ G := by have := al.mem.lt; omega
      replace al := al.below hb
      have q1 := pop_empty hK hp (pop0_wf K) rfl hne.1 hne.2 al.mem (by omega)
      rw [show pop0.sl = -1 from rfl] at q1
      clear l0 l1 l2 l3 l4 l5 hb
      go_upto_region 17 with (first
        | (go_at_call 21; with_reducible refine (pop_done hp4 h43).mono ?_; rintro e w9 ⟨rfl, rfl⟩)
        | (go_at_call 21; with_reducible refine q1.mono ?_; rintro e w8 ⟨rfl, ⟨p4, hp4, h41, h42, h43⟩, hm4, ch⟩; replace al := al.chg ch (by omega) hm4; obtain ⟨tt, hmm⟩ := touches_T hm4; have z0 := hp4.c0 h41; have z1 := hp4.c1 h42)
        | (go_at_call 22; with_reducible refine hmm.mono ?_; rintro e w9 ⟨rfl, rfl⟩))
      clear hmm z0 z1 hp4 h41 h42 h43 ch q1 hp
      obtain ⟨l0, l1, l2, l3, l4, l5⟩ := al.cfg.cells
      go_wp2
      go_loopw [8, 9] (fun v i wr => ∃ n : Nat, n ≤ K.S ∧ i = .int .i64 n ∧ Alo w wr K M G (K.S + n) (rv n) (3 * K.S + 1 + 3 * n) ∧ IsI wr v (rv n) ∧ (∀ r, v.ownBlock = some r → w.heap.size + 1 ≤ r ∧ r ≠ M ∧ r ≠ G) ∧ (n = 0 → v = .slice none 0 0)) (fun _ i _ => K.S - (intOf i).toNat)
      case atStart => exact ⟨0, Nat.zero_le _, rfl, al, IsI.nil _, (fun r hr => by cases hr), fun _ => rfl⟩
      case round =>
        clear al l0 l1 l2 l3 l4 l5
        obtain ⟨n, hn, rfl, al, hI, hB, hz⟩ := hrel
        obtain ⟨l0, l1, l2, l3, l4, l5⟩ := al.cfg.cells
        by_cases hnS : n < K.S
        · have c23 := newPush_K hK n hnS
          go_upto_region 22 with (go_at_call 23; refine (c23 _).mono ?_; rintro e w5 ⟨P, rfl, hp, hP, hb⟩)
          have hl := al.lt
          have hne : P ≠ M ∧ P ≠ G := by have := al.mem.lt; omega
          have hPg : ∀ r, u8.ownBlock = some r → r ≠ P := fun r hr => by have := hI.lt hr; omega
          replace al := al.below hb
          replace hI := hI.below hb
          have q1 := push_alone hK hp (push0_wf hnS) rfl hne.1 hne.2 al.mem (by rw [rv_mem]; show ¬ n < n; omega) (by omega) (by omega)
          rw [show (⟨n, 0, 0⟩ : QS).sl = n from rfl, ← rv_succ] at q1
          clear l0 l1 l2 l3 l4 l5 hb hp
          go_upto_region 24 with (first
            | (go_at_call 24; with_reducible refine q3.mono ?_; rintro e w8 ⟨rfl, hm4, ch⟩; replace al := al.chg ch (by omega) hm4; replace hI := hI.chg ch (fun r hr => by have := hB r hr; have := hPg r hr; simp; omega))
            | (go_at_call 24; with_reducible refine q2.mono ?_; rintro e w7 ⟨rfl, q3⟩)
            | (go_at_call 24; with_reducible refine q1.mono ?_; rintro e w6 ⟨rfl, q2⟩))
          clear q1 q2 q3 hPg ch hm4
          have hl8 := al.lt
          have hMG := al.mem.lt
          rcases Nat.eq_zero_or_pos n with rfl | hpos
          · obtain rfl := hz rfl
            go_wp2_with (at_builtin; refine wpList_append_own_none rfl _ _ 25 rfl w8.heap.size 3 i0 1 Try.underlying25 hi _ 1 [.int .i64 (0 : Nat)] rfl (one_row _ _) rfl ?_)
            go_roundw
            case rel => exact ⟨1, by omega, rfl, al.below (alloc_below _ _), one_int _ 0, (fun r hr => by simp [Value.ownBlock] at hr; omega), fun h => by omega⟩
            case measure => simp [intOf]; omega
          · obtain ⟨ad, cp, hv, hcp, hf⟩ := hI.form
            obtain ⟨gg, oo, rfl⟩ := hf (fun h => by have := rv_len n; rw [h] at this; simp at this; omega)
            rw [rv_len] at hv
            subst hv
            have hsrc := (hI.below (alloc_below w8 (.cells #[.int .i64 (n : Nat)] 3))).src
            go_wp2_with (at_builtin; refine wpList_append_ints rfl _ _ rfl _ [n] (rv n) rfl (one_int _ n) ⟨gg, oo, none⟩ n cp rfl (rv_len n).symm ?c1 hsrc ?c2 ?_)
            case c1 => intro h; have := rv_len n; rw [h] at this; simp at this; omega
            case c2 => rw [rv_len]; simp; omega
            intro v' w9 hI' hg hp'
            replace al := al.below (grown_below hg (.inl rfl))
            rw [← rv_succ] at hI'
            have hB' : ∀ r, v'.ownBlock = some r → w.heap.size + 1 ≤ r ∧ r ≠ M ∧ r ≠ G := fun r hr => by
              rcases hp' with e | ⟨r', e, hr'⟩
              · rw [hr] at e; simp [Value.ownBlock] at e; omega
              · rw [hr] at e; simp at e; omega
            clear hI hB hz hsrc hg hp'
            go_wp2
            go_roundw
            case rel => exact ⟨n + 1, by omega, by go_num, by rw [show (3 * (K.S : Int) + 1 + 3 * ((n + 1 : Nat) : Int)) = 3 * K.S + 1 + 3 * n + 3 by omega]; exact al, hI', hB', fun h => by omega⟩
            case measure => simp [intOf]; omega
        · have hnn : n = K.S := by omega
          subst hnn
          have hxs : (rv K.S).length ≤ 65536 := by rw [rv_len]; omega
          clear hn hnS hz
          go_upto_region 25 with fail
          clear l0 l1 l2 l3 l4 l5
          replace al := al.below (Below.refl wr.heap.size wr).drew
          replace hI := hI.below (Below.refl wr.heap.size wr).drew
          go_region_held (fun wr => wr.cell? ⟨w.heap.size, 0, none⟩ = some (.int .i64 (K.S : Nat)) ∧ wr.cell? ⟨w.heap.size, 1, none⟩ = some (.int .i64 K.a) ∧ wr.cell? ⟨w.heap.size, 2, none⟩ = some (.int .i64 (K.C : Nat)) ∧ wr.cell? ⟨w.heap.size, 3, none⟩ = some (.int .i64 (K.D : Nat)) ∧ wr.cell? ⟨w.heap.size, 4, none⟩ = some (.int .i64 K.g) ∧ wr.cell? ⟨w.heap.size, 5, none⟩ = some (.int .i64 K.k)) (with_reducible exact al.cfg.cells) (first
            | (go_at_call 14; with_reducible refine (words_T hK al.mem).mono ?_; rintro e w6 ⟨⟨R, X, rfl, hw, tp, hX⟩, hb⟩; replace al := al.below hb; replace hI := hI.below hb)
            | (go_at_call 19; with_reducible refine (list_T hK hw tp hX).mono ?_; rintro e w6 ⟨v1, rfl, hI1, _, hb⟩; replace al := al.below hb; replace hI := hI.below hb)
            | (go_at_call 18; with_reducible refine (same_yes hI1 hI hxs).mono ?_; rintro e w6 ⟨rfl, hb⟩; replace al := al.below hb)
            | (go_at_call 11; with_reducible refine (c11 _).mono ?_; rintro e w6 ⟨rfl, hb⟩; replace al := al.below hb))
          all_goals
            go_wp2
            go_ret
            exact ⟨rfl, al.bel⟩
end Go.Proofs.Ytcfallaekedmkaa
