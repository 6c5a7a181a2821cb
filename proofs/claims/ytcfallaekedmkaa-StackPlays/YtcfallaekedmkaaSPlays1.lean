/- The law of whatever is taken and laid: long lists of work, and all. -/
import Derived.Test.YtcfallaekedmkaaSPlays
namespace Go.Proofs.Ytcfallaekedmkaa
open Go.ChangeShapes Go.WideShapes Go.ChangeAt Go.RowKit Go.Deep
open Mm (IsMem MS zeroMS)
set_option linter.unusedVariables false

set_option maxRecDepth 100000 in
set_option maxHeartbeats 8000000 in
theorem plays_long (s a c d g k : Int) (wad pad : Option Addr) (n wcap np pcap : Nat) (w : World) (hn : 8 < n) :
    Calls Try.prog 3 #[.agg (cs s a c d g k), .slice wad n wcap, .slice pad np pcap] w fun e w' => e = .returned (.bool true) ∧ Below w.heap.size w w' := by
  have cf := Fit_any s a c d g k
  have bel := alloc_below w (.cells #[.int .i64 s, .int .i64 a, .int .i64 c, .int .i64 d, .int .i64 g, .int .i64 k] 23)
  have hh := cfg_new w s a c d g k
  go_enter Try.func3, Try.ntmps3
  go_upto_region 1 with fail
  generalize w.alloc (.cells #[.int .i64 s, .int .i64 a, .int .i64 c, .int .i64 d, .int .i64 g, .int .i64 k] 23) = w1 at *
  obtain ⟨l0, l1, l2, l3, l4, l5⟩ := hh.cells
  go_upto_region 2 with (first
    | (go_at_call 9; refine (cf _).mono ?_; rintro e w2 ⟨⟨s', a', c', d', g', k', rfl, hs, ha, hc, hd, hg, hk⟩, b⟩; replace bel := seq_below bel b; replace hh := hh.below b; obtain ⟨l0, l1, l2, l3, l4, l5⟩ := hh.cells; have y0 := hh.free 0; have y1 := hh.free 1; have y2 := hh.free 2; have y3 := hh.free 3; have y4 := hh.free 4; have y5 := hh.free 5))
  have h3 := cfg_stored6 hh s' a' c' d' g' k'
  have bel3 := below_stored6 bel (Nat.le_refl w.heap.size) (.int .i64 s') (.int .i64 a') (.int .i64 c') (.int .i64 d') (.int .i64 g') (.int .i64 k')
  clear l0 l1 l2 l3 l4 l5 y0 y1 y2 y3 y4 y5 hh bel cf
  generalize ((((((w2.setCell ⟨w.heap.size, 0, none⟩ (.int .i64 s')).setCell ⟨w.heap.size, 1, none⟩ (.int .i64 a')).setCell ⟨w.heap.size, 2, none⟩ (.int .i64 c')).setCell ⟨w.heap.size, 3, none⟩ (.int .i64 d')).setCell ⟨w.heap.size, 4, none⟩ (.int .i64 g')).setCell ⟨w.heap.size, 5, none⟩ (.int .i64 k')) = w3 at *
  have hr : rightB s' a' c' d' g' k' = true := rightB_iff.2 (by omega)
  clear ha hc hd hg hk
  obtain ⟨K, hK, rfl, rfl, rfl, rfl, rfl, rfl⟩ := Cf.of_right hr
  have c10 := memory_yes hK.r hK.b hK.b8 hK.c8 hK.d16 hK.s64 hK.s1 hK.d1
  rw [show zeroMS (memX K.C K.D K.B (nW K.C K.D K.B K.S) (K.S - 1)) = memK0 K from rfl] at c10
  have hlt3 := h3.lt
  have hh := h3
  have bel := bel3
  clear h3 bel3 hr
  obtain ⟨l0, l1, l2, l3, l4, l5⟩ := hh.cells
  have c11 := awake_any
  go_wp2_with (first
    | (go_at_call 10; refine (c10 _).mono ?_; rintro e w4 ⟨M, G, rfl, hm, hM, hG, hb⟩; replace bel := seq_below bel hb)
    | (go_at_call 11; refine (c11 _).mono ?_; rintro e w5 ⟨rfl, hb2⟩; replace bel := seq_below bel hb2))
  go_ret
  exact ⟨rfl, bel⟩

theorem plays_law (s a c d g k : Int) (wad pad : Option Addr) (wcap pcap : Nat) (Z : List (Option Addr × List Bool × Nat)) (Y : List Int) (w : World) (hC : Rows3 w wad Z) (hY : CameP isZ w pad Y) (hYm : Y.length ≤ maxLen) :
    Calls Try.prog 3 #[.agg (cs s a c d g k), .slice wad Z.length wcap, .slice pad Y.length pcap] w fun e w' => e = .returned (.bool true) ∧ Below w.heap.size w w' := by
  by_cases hZ : Z.length ≤ 8
  · exact plays_short s a c d g k wad pad wcap pcap Z Y w hC hY hZ hYm
  · exact plays_long s a c d g k wad pad _ wcap _ pcap w (by omega)

/-- A row of bools that came in. -/
def isR (w : World) (v : Value) (z : Option Addr × List Bool × Nat) : Prop := v = .slice z.1 z.2.1.length z.2.2 ∧ z.2.1.length ≤ z.2.2 ∧ CameP isB w z.1 z.2.1
theorem open_rows {H : Type} {enc : TypeId × Value → H} {w : World} {ad : Option Addr} {len cap fuel : Nat} {x : DataW H × List MemPlace}
    (h : DataW.trod enc Try.prog w 0 (fun _ => true) true fuel 24 [.slice ad len cap] = some x) : ∃ Z : List (Option Addr × List Bool × Nat), Z.length = len ∧ len ≤ cap ∧ cap ≤ maxLen ∧ CameP (isR w) w ad Z :=
  open_elems Try.underlying24 (by kernel_rfl) (fun n v y hy => by
    have hv : ∃ a l c, v = .slice a l c := by
      rcases open_slice1 Try.underlying31 (by kernel_rfl) hy with ⟨h0, _⟩ | ⟨a, len', cap', m, n', V, D, Pl, hcs, _⟩
      · simp only [List.cons.injEq, and_true] at h0
        exact ⟨_, _, _, h0⟩
      · simp only [List.cons.injEq, and_true] at hcs
        exact ⟨_, _, _, hcs⟩
    obtain ⟨a, l, c, rfl⟩ := hv
    obtain ⟨Z, hl, hc, _, hC⟩ := open_bools4 hy
    subst hl
    exact ⟨(a, Z, c), rfl, hc, hC⟩) h
theorem rows_in {w : World} {ad : Option Addr} {Z : List (Option Addr × List Bool × Nat)} (h : CameP (isR w) w ad Z) : Rows3 w ad Z := fun i hi => by
  obtain ⟨b, off, v, h1, h2, h3, h4, h5, h6⟩ := h i hi
  subst h4
  refine ⟨b, off, h1, h2, h3, h5, fun j hj => ?_⟩
  obtain ⟨b', off', v', g1, g2, g3, g4⟩ := h6 j hj
  exact ⟨b', off', g1, g2, by rw [g3, show v' = .bool _ from g4]⟩
end Go.Proofs.Ytcfallaekedmkaa
