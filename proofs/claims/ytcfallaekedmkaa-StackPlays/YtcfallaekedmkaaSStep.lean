/- The contract of the law's own 'step' where a machine is under way. -/
import Derived.Test.YtcfallaekedmkaaSOverPop
import Derived.Test.YtcfallaekedmkaaSInv
namespace Go.Proofs.Ytcfallaekedmkaa
open Go.RowKit
open Mm (IsMem MS zeroMS)
set_option linter.unusedVariables false

theorem words_m {w : World} {K : Cf} (hK : K.Ok) {M G tag : Nat} {F : List Nat} {m : MS} (hm : IsMem w M G m) (tp : Top K m.X tag F) :
    Calls Try.prog 14 #[.pointer (some ⟨M, 0, none⟩)] w fun e w' => ∃ R, e = .returned (.slice (some ⟨R, 0, none⟩) K.N K.N) ∧ Mm.IsWords w' R m.X ∧ (∀ i, m.X.getD i 0 < 18446744073709551616) ∧ Below w.heap.size w w' := by
  have hN := hK.N_b
  have c := Mm.words_any hm (by have := tp.len; omega)
  rw [tp.len] at c
  exact c.mono fun e w' ⟨R, he, hw, _, hb⟩ => ⟨R, he, hw, fun i => hm.word_lt i, hb⟩
theorem rlist_m {w : World} {K : Cf} (hK : K.Ok) {R : Nat} {X : List Nat} {tag : Nat} {F : List Nat} (hw : Mm.IsWords w R X) (tp : Top K X tag F) (hX : ∀ i, X.getD i 0 < 18446744073709551616) :
    Calls Try.prog 13 #[.agg K.cs, .slice (some ⟨R, 0, none⟩) K.N K.N] w fun e w' => ∃ v, e = .returned v ∧ IsI w' v F ∧ (∀ g, v.ownBlock = some g → w.heap.size ≤ g) ∧ Below w.heap.size w w' := by
  have c := rlist_yes hK (cap := K.N) (RdW.of_words hw) tp.len hX
  rw [tp.list] at c
  exact c
theorem Top.len_le {K : Cf} {X : List Nat} {tag : Nat} {F : List Nat} (h : Top K X tag F) : F.length ≤ K.S := nodup_len K.S F h.nd h.ch.lt

set_option maxRecDepth 4000 in
set_option maxHeartbeats 8000000 in
theorem stp_pop_go {w : World} {K : Cf} (hK : K.Ok) {M G L o : Nat} {m : MS} {tag : Nat} {F hs : List Nat} {cur : Array Value} {v0 : Value} {wv : Value} {la : Int} {P : Nat} {p p' : PS} {m' : MS} (hm : IsMem w M G m) (tp : Top K m.X tag F) (ht : 0 ≤ m.t ∧ m.t < 2305843009213693952) (hr : IsRow w L cur) (hL : L ≠ M ∧ L ≠ G) (h0 : cur[o]? = some v0) (h1 : cur[o + 1]? = some wv) (h4 : cur[o + 4]? = some (.int .i64 la)) (i0 : IsI w v0 hs) (hv0 : ∀ r, v0.ownBlock = some r → r ≠ M ∧ r ≠ G ∧ r ≠ L) (h2 : cur[o + 2]? = some (.pointer (some ⟨P, 0, none⟩))) (h3 : cur[o + 3]? = some (.pointer none)) (hp : IsPopS w P K p) (hP : P ≠ M ∧ P ≠ G ∧ P ≠ L) (hv0P : ∀ r, v0.ownBlock = some r → r ≠ P)
    (cst : ∀ wr, IsMem wr M G m → IsPopS wr P K p → Calls Try.prog 21 #[.pointer (some ⟨P, 0, none⟩), .pointer (some ⟨M, 0, none⟩)] wr fun e w' => e = .returned (.bool false) ∧ IsMem w' M G m' ∧ IsPopS w' P K p' ∧ Chg [P, M, G] wr w') (tp' : Top K m'.X tag F) (ht' : m'.t ≤ m.t + 1 ∧ 0 ≤ m'.t) :
    Calls Try.prog 12 #[.pointer (some ⟨L, o, none⟩), .agg K.cs, .pointer (some ⟨M, 0, none⟩)] w fun e w' => e = .returned (.bool true) ∧ IsMem w' M G m' ∧ IsPopS w' P K p' ∧ IsRow w' L cur ∧ IsI w' v0 hs ∧ Chg [P, M, G, L] w w' := by
  have hxs : F.length ≤ 65536 := by have := tp.len_le; have := hK.s64; omega
  have hPl := hp.lt
  have hMl := hm.M_lt
  have hGl := hm.G_lt
  have hN := hK.N_b
  have hh := cfg_new w K.S K.a K.C K.D K.g K.k
  have b0 := alloc_below w (.cells #[.int .i64 (K.S : Nat), .int .i64 K.a, .int .i64 (K.C : Nat), .int .i64 (K.D : Nat), .int .i64 K.g, .int .i64 K.k] 23)
  have ch : Chg [P, M, G, L] w w := Chg.refl _ w
  replace hm := hm.below b0
  replace hr := hr.below b0
  replace i0 := i0.below b0
  replace hp := hp.below b0
  replace ch := ch.then_below b0
  clear b0
  go_enter Try.func12, Try.ntmps12
  go_upto_region 1 with fail
  generalize w.alloc (.cells #[.int .i64 (K.S : Nat), .int .i64 K.a, .int .i64 (K.C : Nat), .int .i64 (K.D : Nat), .int .i64 K.g, .int .i64 K.k] 23) = w1 at *
  have hhl := hh.lt
  replace hm := hm.below (Below.refl w1.heap.size w1).drew
  replace hr := hr.below (Below.refl w1.heap.size w1).drew
  replace i0 := i0.below (Below.refl w1.heap.size w1).drew
  replace hp := hp.below (Below.refl w1.heap.size w1).drew
  replace hh := hh.below (Below.refl w1.heap.size w1).drew
  replace ch := ch.then_below (Below.refl w1.heap.size w1).drew
  go_region_held (fun wr => wr.cell? ⟨w.heap.size, 0, none⟩ = some (.int .i64 (K.S : Nat)) ∧ wr.cell? ⟨w.heap.size, 1, none⟩ = some (.int .i64 K.a) ∧ wr.cell? ⟨w.heap.size, 2, none⟩ = some (.int .i64 (K.C : Nat)) ∧ wr.cell? ⟨w.heap.size, 3, none⟩ = some (.int .i64 (K.D : Nat)) ∧ wr.cell? ⟨w.heap.size, 4, none⟩ = some (.int .i64 K.g) ∧ wr.cell? ⟨w.heap.size, 5, none⟩ = some (.int .i64 K.k)) (with_reducible exact hh.cells) (first
    | (go_at_call 14; with_reducible refine (words_m hK hm tp).mono ?_; rintro e w2 ⟨R, rfl, hw, hX, hb⟩; replace hm := hm.below hb; replace hr := hr.below hb; replace i0 := i0.below hb; replace hp := hp.below hb; replace hh := hh.below hb; replace ch := ch.then_below hb)
    | (go_at_call 13; with_reducible refine (rlist_m hK hw tp hX).mono ?_; rintro e w3 ⟨v1, rfl, i1, hv1, hb⟩; have hsz := hh.lt; replace hm := hm.below hb; replace hr := hr.below hb; replace i0 := i0.below hb; replace hp := hp.below hb; replace hh := hh.below hb; replace ch := ch.then_below hb))
  replace hv1 : ∀ r, v1.ownBlock = some r → w.heap.size < r := fun r h => by have := hv1 r h; omega
  clear hw hX hb
  go_upto_region 3 with (go_at_call 22; refine (Mm.touches_any hm).mono ?_; rintro e w4 ⟨rfl, rfl⟩)
  have nL : L ∉ [P, M, G] := by simp; omega
  have nC : w.heap.size ∉ [P, M, G] := by simp; omega
  have n0 : ∀ r, v0.ownBlock = some r → r ∉ [P, M, G] := fun r h => by have := hv0 r h; have := hv0P r h; simp; omega
  have n1 : ∀ r, v1.ownBlock = some r → r ∉ [P, M, G] := fun r h => by have := hv1 r h; simp; omega
  have c0 := hr.cell h0
  have c1 := hr.cell h1
  have c2 := hr.cell h2
  have c3 := hr.cell h3
  have c4 := hr.cell h4
  have fz := hr.free
  go_upto_region 21 with (go_at_call 21; with_reducible refine (cst _ hm hp).mono ?_; rintro e w5 ⟨rfl, hm', hp', ch5⟩)
  clear hm hp
  have hm := hm'
  have hp := hp'
  clear hm' hp'
  replace hr := hr.chg ch5 nL
  replace hh := hh.chg ch5 nC
  replace i0 := i0.chg ch5 n0
  replace i1 := i1.chg ch5 n1
  replace ch := ch.trans (ch5.mono (fun i h => .inl (by simp at h ⊢; omega)))
  clear c0 c1 c2 c3 c4 fz ch5
  replace hm := hm.below (Below.refl w5.heap.size w5).drew
  replace hr := hr.below (Below.refl w5.heap.size w5).drew
  replace hh := hh.below (Below.refl w5.heap.size w5).drew
  replace i0 := i0.below (Below.refl w5.heap.size w5).drew
  replace i1 := i1.below (Below.refl w5.heap.size w5).drew
  replace hp := hp.below (Below.refl w5.heap.size w5).drew
  replace ch := ch.then_below (Below.refl w5.heap.size w5).drew
  go_region_held (fun wr => wr.cell? ⟨w.heap.size, 0, none⟩ = some (.int .i64 (K.S : Nat)) ∧ wr.cell? ⟨w.heap.size, 1, none⟩ = some (.int .i64 K.a) ∧ wr.cell? ⟨w.heap.size, 2, none⟩ = some (.int .i64 (K.C : Nat)) ∧ wr.cell? ⟨w.heap.size, 3, none⟩ = some (.int .i64 (K.D : Nat)) ∧ wr.cell? ⟨w.heap.size, 4, none⟩ = some (.int .i64 K.g) ∧ wr.cell? ⟨w.heap.size, 5, none⟩ = some (.int .i64 K.k)) (with_reducible exact hh.cells) (first
    | (go_at_call 14; with_reducible refine (words_m hK hm tp').mono ?_; rintro e w6 ⟨R, rfl, hw, hX, hb⟩; replace hm := hm.below hb; replace hr := hr.below hb; replace hh := hh.below hb; replace i0 := i0.below hb; replace i1 := i1.below hb; replace hp := hp.below hb; replace ch := ch.then_below hb)
    | (go_at_call 13; with_reducible refine (rlist_m hK hw tp' hX).mono ?_; rintro e w7 ⟨v2, rfl, i2, hv2, hb⟩; have hMl := hm.M_lt; have hGl := hm.G_lt; have hrl := hr.lt; have hpl := hp.lt; have h0l := fun r h => i0.lt (g := r) h; replace hm := hm.below hb; replace hr := hr.below hb; replace hh := hh.below hb; replace i0 := i0.below hb; replace i1 := i1.below hb; replace hp := hp.below hb; replace ch := ch.then_below hb))
  clear hw hX hb
  go_upto_region 24 with (go_at_call 22; refine (Mm.touches_any hm).mono ?_; rintro e w8 ⟨rfl, rfl⟩)
  go_wp2_with (go_at_call 18; with_reducible refine (same_yes i1 i2 hxs).mono ?_; rintro e w9 ⟨rfl, hb⟩; replace hm := hm.below hb; replace hr := hr.below hb; replace hp := hp.below hb; replace ch := ch.then_below hb; replace i0 := i0.below hb)
  go_ret
  exact ⟨rfl, hm, hp, hr, i0, ch⟩

set_option maxRecDepth 4000 in
set_option maxHeartbeats 8000000 in
theorem stp_pop_empty {w : World} {K : Cf} (hK : K.Ok) {M G L o : Nat} {m : MS} {tag : Nat} {F hs : List Nat} {cur : Array Value} {v0 : Value} {wv : Value} {la : Int} {P : Nat} {p p' : PS} {m' : MS} (hm : IsMem w M G m) (tp : Top K m.X tag []) (ht : 0 ≤ m.t ∧ m.t < 2305843009213693952) (hr : IsRow w L cur) (hL : L ≠ M ∧ L ≠ G) (h0 : cur[o]? = some v0) (h1 : cur[o + 1]? = some wv) (h4 : cur[o + 4]? = some (.int .i64 la)) (i0 : IsI w v0 hs) (hv0 : ∀ r, v0.ownBlock = some r → r ≠ M ∧ r ≠ G ∧ r ≠ L) (h2 : cur[o + 2]? = some (.pointer (some ⟨P, 0, none⟩))) (h3 : cur[o + 3]? = some (.pointer none)) (hp : IsPopS w P K p) (hP : P ≠ M ∧ P ≠ G ∧ P ≠ L) (hv0P : ∀ r, v0.ownBlock = some r → r ≠ P)
    (cst : ∀ wr, IsMem wr M G m → IsPopS wr P K p → Calls Try.prog 21 #[.pointer (some ⟨P, 0, none⟩), .pointer (some ⟨M, 0, none⟩)] wr fun e w' => e = .returned (.bool true) ∧ IsMem w' M G m' ∧ IsPopS w' P K p' ∧ Chg [P, M, G] wr w') (tp' : Top K m'.X tag []) (ht' : m'.t ≤ m.t + 1 ∧ 0 ≤ m'.t) (hp1 : p'.sl = -1) (hp2 : p'.em = true) :
    Calls Try.prog 12 #[.pointer (some ⟨L, o, none⟩), .agg K.cs, .pointer (some ⟨M, 0, none⟩)] w fun e w' => e = .returned (.bool true) ∧ IsMem w' M G m' ∧ IsRow w' L (cur.setIfInBounds (o + 2) (.pointer none)) ∧ IsI w' v0 hs ∧ Chg [P, M, G, L] w w' := by
  have hPl := hp.lt
  have hMl := hm.M_lt
  have hGl := hm.G_lt
  have hN := hK.N_b
  have hh := cfg_new w K.S K.a K.C K.D K.g K.k
  have b0 := alloc_below w (.cells #[.int .i64 (K.S : Nat), .int .i64 K.a, .int .i64 (K.C : Nat), .int .i64 (K.D : Nat), .int .i64 K.g, .int .i64 K.k] 23)
  have ch : Chg [P, M, G, L] w w := Chg.refl _ w
  replace hm := hm.below b0
  replace hr := hr.below b0
  replace i0 := i0.below b0
  replace hp := hp.below b0
  replace ch := ch.then_below b0
  clear b0
  go_enter Try.func12, Try.ntmps12
  go_upto_region 1 with fail
  generalize w.alloc (.cells #[.int .i64 (K.S : Nat), .int .i64 K.a, .int .i64 (K.C : Nat), .int .i64 (K.D : Nat), .int .i64 K.g, .int .i64 K.k] 23) = w1 at *
  have hhl := hh.lt
  replace hm := hm.below (Below.refl w1.heap.size w1).drew
  replace hr := hr.below (Below.refl w1.heap.size w1).drew
  replace i0 := i0.below (Below.refl w1.heap.size w1).drew
  replace hp := hp.below (Below.refl w1.heap.size w1).drew
  replace hh := hh.below (Below.refl w1.heap.size w1).drew
  replace ch := ch.then_below (Below.refl w1.heap.size w1).drew
  go_region_held (fun wr => wr.cell? ⟨w.heap.size, 0, none⟩ = some (.int .i64 (K.S : Nat)) ∧ wr.cell? ⟨w.heap.size, 1, none⟩ = some (.int .i64 K.a) ∧ wr.cell? ⟨w.heap.size, 2, none⟩ = some (.int .i64 (K.C : Nat)) ∧ wr.cell? ⟨w.heap.size, 3, none⟩ = some (.int .i64 (K.D : Nat)) ∧ wr.cell? ⟨w.heap.size, 4, none⟩ = some (.int .i64 K.g) ∧ wr.cell? ⟨w.heap.size, 5, none⟩ = some (.int .i64 K.k)) (with_reducible exact hh.cells) (first
    | (go_at_call 14; with_reducible refine (words_m hK hm tp).mono ?_; rintro e w2 ⟨R, rfl, hw, hX, hb⟩; replace hm := hm.below hb; replace hr := hr.below hb; replace i0 := i0.below hb; replace hp := hp.below hb; replace hh := hh.below hb; replace ch := ch.then_below hb)
    | (go_at_call 13; with_reducible refine (rlist_m hK hw tp hX).mono ?_; rintro e w3 ⟨v1, rfl, i1, hv1, hb⟩; have hsz := hh.lt; replace hm := hm.below hb; replace hr := hr.below hb; replace i0 := i0.below hb; replace hp := hp.below hb; replace hh := hh.below hb; replace ch := ch.then_below hb))
  replace hv1 : ∀ r, v1.ownBlock = some r → w.heap.size < r := fun r h => by have := hv1 r h; omega
  clear hw hX hb
  go_upto_region 3 with (go_at_call 22; refine (Mm.touches_any hm).mono ?_; rintro e w4 ⟨rfl, rfl⟩)
  have nL : L ∉ [P, M, G] := by simp; omega
  have nC : w.heap.size ∉ [P, M, G] := by simp; omega
  have n0 : ∀ r, v0.ownBlock = some r → r ∉ [P, M, G] := fun r h => by have := hv0 r h; have := hv0P r h; simp; omega
  have n1 : ∀ r, v1.ownBlock = some r → r ∉ [P, M, G] := fun r h => by have := hv1 r h; simp; omega
  have c0 := hr.cell h0
  have c1 := hr.cell h1
  have c2 := hr.cell h2
  have c3 := hr.cell h3
  have c4 := hr.cell h4
  have fz := hr.free
  go_upto_region 21 with (go_at_call 21; with_reducible refine (cst _ hm hp).mono ?_; rintro e w5 ⟨rfl, hm', hp', ch5⟩)
  clear hm hp
  have hm := hm'
  have hp := hp'
  clear hm' hp'
  replace hr := hr.chg ch5 nL
  replace hh := hh.chg ch5 nC
  replace i0 := i0.chg ch5 n0
  replace i1 := i1.chg ch5 n1
  replace ch := ch.trans (ch5.mono (fun i h => .inl (by simp at h ⊢; omega)))
  clear c0 c1 c2 c3 c4 fz ch5
  replace hm := hm.below (Below.refl w5.heap.size w5).drew
  replace hr := hr.below (Below.refl w5.heap.size w5).drew
  replace hh := hh.below (Below.refl w5.heap.size w5).drew
  replace i0 := i0.below (Below.refl w5.heap.size w5).drew
  replace i1 := i1.below (Below.refl w5.heap.size w5).drew
  replace hp := hp.below (Below.refl w5.heap.size w5).drew
  replace ch := ch.then_below (Below.refl w5.heap.size w5).drew
  go_region_held (fun wr => wr.cell? ⟨w.heap.size, 0, none⟩ = some (.int .i64 (K.S : Nat)) ∧ wr.cell? ⟨w.heap.size, 1, none⟩ = some (.int .i64 K.a) ∧ wr.cell? ⟨w.heap.size, 2, none⟩ = some (.int .i64 (K.C : Nat)) ∧ wr.cell? ⟨w.heap.size, 3, none⟩ = some (.int .i64 (K.D : Nat)) ∧ wr.cell? ⟨w.heap.size, 4, none⟩ = some (.int .i64 K.g) ∧ wr.cell? ⟨w.heap.size, 5, none⟩ = some (.int .i64 K.k)) (with_reducible exact hh.cells) (first
    | (go_at_call 14; with_reducible refine (words_m hK hm tp').mono ?_; rintro e w6 ⟨R, rfl, hw, hX, hb⟩; replace hm := hm.below hb; replace hr := hr.below hb; replace hh := hh.below hb; replace i0 := i0.below hb; replace i1 := i1.below hb; replace hp := hp.below hb; replace ch := ch.then_below hb)
    | (go_at_call 13; with_reducible refine (rlist_m hK hw tp' hX).mono ?_; rintro e w7 ⟨v2, rfl, i2, hv2, hb⟩; have hMl := hm.M_lt; have hGl := hm.G_lt; have hrl := hr.lt; have hpl := hp.lt; have h0l := fun r h => i0.lt (g := r) h; replace hm := hm.below hb; replace hr := hr.below hb; replace hh := hh.below hb; replace i0 := i0.below hb; replace i1 := i1.below hb; replace hp := hp.below hb; replace ch := ch.then_below hb))
  clear hw hX hb
  go_upto_region 24 with (go_at_call 22; refine (Mm.touches_any hm).mono ?_; rintro e w8 ⟨rfl, rfl⟩)
  go_wp2_with (go_at_call 31; with_reducible refine (over_empty hr h2 hp hp1 hp2 hP.2.2 i1 i2).mono ?_; rintro e w9 ⟨rfl, hr', ch9⟩)
  go_ret
  exact ⟨rfl, IsMem.chg hm ch9 (by simp; omega) (by simp; omega), hr', i0.chg ch9 (fun r h => by have := hv0 r h; simp; omega), ch.trans (ch9.mono (fun i h => .inl (by simp at h ⊢; omega)))⟩

set_option maxRecDepth 4000 in
set_option maxHeartbeats 8000000 in
theorem stp_pop_done {w : World} {K : Cf} (hK : K.Ok) {M G L o : Nat} {m : MS} {tag : Nat} {F hs : List Nat} {cur : Array Value} {v0 : Value} {wv : Value} {la : Int} {P s : Nat} {p p' : PS} {m' : MS} (hm : IsMem w M G m) (tp : Top K m.X tag (s :: F)) (ht : 0 ≤ m.t ∧ m.t < 2305843009213693952) (hr : IsRow w L cur) (hL : L ≠ M ∧ L ≠ G) (h0 : cur[o]? = some v0) (h1 : cur[o + 1]? = some wv) (h4 : cur[o + 4]? = some (.int .i64 la)) (i0 : IsI w v0 hs) (hv0 : ∀ r, v0.ownBlock = some r → r ≠ M ∧ r ≠ G ∧ r ≠ L) (h2 : cur[o + 2]? = some (.pointer (some ⟨P, 0, none⟩))) (h3 : cur[o + 3]? = some (.pointer none)) (hp : IsPopS w P K p) (hP : P ≠ M ∧ P ≠ G ∧ P ≠ L) (hv0P : ∀ r, v0.ownBlock = some r → r ≠ P) (hhs : hs.length ≤ 64)
    (cst : ∀ wr, IsMem wr M G m → IsPopS wr P K p → Calls Try.prog 21 #[.pointer (some ⟨P, 0, none⟩), .pointer (some ⟨M, 0, none⟩)] wr fun e w' => e = .returned (.bool true) ∧ IsMem w' M G m' ∧ IsPopS w' P K p' ∧ Chg [P, M, G] wr w') (tp' : Top K m'.X (tag + 1) F) (ht' : m'.t ≤ m.t + 1 ∧ 0 ≤ m'.t) (hp1 : p'.sl = (s : Int)) (hp2 : p'.em = false) :
    Calls Try.prog 12 #[.pointer (some ⟨L, o, none⟩), .agg K.cs, .pointer (some ⟨M, 0, none⟩)] w fun e w' => e = .returned (.bool true) ∧ IsMem w' M G m' ∧ ∃ v', IsI w' v' (hs ++ [s]) ∧ IsRow w' L ((cur.setIfInBounds (o + 2) (.pointer none)).setIfInBounds o v') ∧ Chg (P :: M :: G :: L :: v0.ownBlock.toList) w w' ∧ (v'.ownBlock = v0.ownBlock ∨ ∃ g, v'.ownBlock = some g ∧ w.heap.size ≤ g) := by
  have hPl := hp.lt
  have hMl := hm.M_lt
  have hGl := hm.G_lt
  have hLl := hr.lt
  have h0e := fun r h => i0.lt (g := r) h
  have hFl : F.length ≤ 64 := by have := tp'.len_le; have := hK.s64; omega
  have hN := hK.N_b
  have hh := cfg_new w K.S K.a K.C K.D K.g K.k
  have b0 := alloc_below w (.cells #[.int .i64 (K.S : Nat), .int .i64 K.a, .int .i64 (K.C : Nat), .int .i64 (K.D : Nat), .int .i64 K.g, .int .i64 K.k] 23)
  have ch : Chg [P, M, G, L] w w := Chg.refl _ w
  replace hm := hm.below b0
  replace hr := hr.below b0
  replace i0 := i0.below b0
  replace hp := hp.below b0
  replace ch := ch.then_below b0
  clear b0
  go_enter Try.func12, Try.ntmps12
  go_upto_region 1 with fail
  generalize w.alloc (.cells #[.int .i64 (K.S : Nat), .int .i64 K.a, .int .i64 (K.C : Nat), .int .i64 (K.D : Nat), .int .i64 K.g, .int .i64 K.k] 23) = w1 at *
  have hhl := hh.lt
  replace hm := hm.below (Below.refl w1.heap.size w1).drew
  replace hr := hr.below (Below.refl w1.heap.size w1).drew
  replace i0 := i0.below (Below.refl w1.heap.size w1).drew
  replace hp := hp.below (Below.refl w1.heap.size w1).drew
  replace hh := hh.below (Below.refl w1.heap.size w1).drew
  replace ch := ch.then_below (Below.refl w1.heap.size w1).drew
  go_region_held (fun wr => wr.cell? ⟨w.heap.size, 0, none⟩ = some (.int .i64 (K.S : Nat)) ∧ wr.cell? ⟨w.heap.size, 1, none⟩ = some (.int .i64 K.a) ∧ wr.cell? ⟨w.heap.size, 2, none⟩ = some (.int .i64 (K.C : Nat)) ∧ wr.cell? ⟨w.heap.size, 3, none⟩ = some (.int .i64 (K.D : Nat)) ∧ wr.cell? ⟨w.heap.size, 4, none⟩ = some (.int .i64 K.g) ∧ wr.cell? ⟨w.heap.size, 5, none⟩ = some (.int .i64 K.k)) (with_reducible exact hh.cells) (first
    | (go_at_call 14; with_reducible refine (words_m hK hm tp).mono ?_; rintro e w2 ⟨R, rfl, hw, hX, hb⟩; replace hm := hm.below hb; replace hr := hr.below hb; replace i0 := i0.below hb; replace hp := hp.below hb; replace hh := hh.below hb; replace ch := ch.then_below hb)
    | (go_at_call 13; with_reducible refine (rlist_m hK hw tp hX).mono ?_; rintro e w3 ⟨v1, rfl, i1, hv1, hb⟩; have hsz := hh.lt; replace hm := hm.below hb; replace hr := hr.below hb; replace i0 := i0.below hb; replace hp := hp.below hb; replace hh := hh.below hb; replace ch := ch.then_below hb))
  replace hv1 : ∀ r, v1.ownBlock = some r → w.heap.size < r := fun r h => by have := hv1 r h; omega
  clear hw hX hb
  go_upto_region 3 with (go_at_call 22; refine (Mm.touches_any hm).mono ?_; rintro e w4 ⟨rfl, rfl⟩)
  have nL : L ∉ [P, M, G] := by simp; omega
  have nC : w.heap.size ∉ [P, M, G] := by simp; omega
  have n0 : ∀ r, v0.ownBlock = some r → r ∉ [P, M, G] := fun r h => by have := hv0 r h; have := hv0P r h; simp; omega
  have n1 : ∀ r, v1.ownBlock = some r → r ∉ [P, M, G] := fun r h => by have := hv1 r h; simp; omega
  have c0 := hr.cell h0
  have c1 := hr.cell h1
  have c2 := hr.cell h2
  have c3 := hr.cell h3
  have c4 := hr.cell h4
  have fz := hr.free
  go_upto_region 21 with (go_at_call 21; with_reducible refine (cst _ hm hp).mono ?_; rintro e w5 ⟨rfl, hm', hp', ch5⟩)
  clear hm hp
  have hm := hm'
  have hp := hp'
  clear hm' hp'
  replace hr := hr.chg ch5 nL
  replace hh := hh.chg ch5 nC
  replace i0 := i0.chg ch5 n0
  replace i1 := i1.chg ch5 n1
  replace ch := ch.trans (ch5.mono (fun i h => .inl (by simp at h ⊢; omega)))
  clear c0 c1 c2 c3 c4 fz ch5
  replace hm := hm.below (Below.refl w5.heap.size w5).drew
  replace hr := hr.below (Below.refl w5.heap.size w5).drew
  replace hh := hh.below (Below.refl w5.heap.size w5).drew
  replace i0 := i0.below (Below.refl w5.heap.size w5).drew
  replace i1 := i1.below (Below.refl w5.heap.size w5).drew
  replace hp := hp.below (Below.refl w5.heap.size w5).drew
  replace ch := ch.then_below (Below.refl w5.heap.size w5).drew
  go_region_held (fun wr => wr.cell? ⟨w.heap.size, 0, none⟩ = some (.int .i64 (K.S : Nat)) ∧ wr.cell? ⟨w.heap.size, 1, none⟩ = some (.int .i64 K.a) ∧ wr.cell? ⟨w.heap.size, 2, none⟩ = some (.int .i64 (K.C : Nat)) ∧ wr.cell? ⟨w.heap.size, 3, none⟩ = some (.int .i64 (K.D : Nat)) ∧ wr.cell? ⟨w.heap.size, 4, none⟩ = some (.int .i64 K.g) ∧ wr.cell? ⟨w.heap.size, 5, none⟩ = some (.int .i64 K.k)) (with_reducible exact hh.cells) (first
    | (go_at_call 14; with_reducible refine (words_m hK hm tp').mono ?_; rintro e w6 ⟨R, rfl, hw, hX, hb⟩; replace hm := hm.below hb; replace hr := hr.below hb; replace hh := hh.below hb; replace i0 := i0.below hb; replace i1 := i1.below hb; replace hp := hp.below hb; replace ch := ch.then_below hb)
    | (go_at_call 13; with_reducible refine (rlist_m hK hw tp' hX).mono ?_; rintro e w7 ⟨v2, rfl, i2, hv2, hb⟩; have hMl := hm.M_lt; have hGl := hm.G_lt; have hrl := hr.lt; have hpl := hp.lt; have h0l := fun r h => i0.lt (g := r) h; replace hm := hm.below hb; replace hr := hr.below hb; replace hh := hh.below hb; replace i0 := i0.below hb; replace i1 := i1.below hb; replace hp := hp.below hb; replace ch := ch.then_below hb))
  clear hw hX hb
  go_upto_region 24 with (go_at_call 22; refine (Mm.touches_any hm).mono ?_; rintro e w8 ⟨rfl, rfl⟩)
  have nn : ∀ r, v0.ownBlock = some r → r ≠ L ∧ r ≠ P ∧ v1.ownBlock ≠ some r ∧ v2.ownBlock ≠ some r := fun r h => by
    have a1 := hv0 r h
    have a2 := hv0P r h
    have a3 := h0e r h
    have a4 := h0l r h
    exact ⟨a1.2.2, a2, fun e => by have := hv1 r e; omega, fun e => by have := hv2 r e; omega⟩
  have nv1 : ∀ r, v1.ownBlock = some r → r ≠ L := fun r h => by have := hv1 r h; omega
  have nv2 : ∀ r, v2.ownBlock = some r → r ≠ L := fun r h => by have := hv2 r h; omega
  go_wp2_with (go_at_call 31; with_reducible refine (over_pop hr h0 h2 hp hp1 hp2 hP.2.2 i0 i1 i2 nn nv1 nv2 hFl hhs).mono ?_; rintro e w9 ⟨rfl, v', hI', hr', ch9, hpl9⟩)
  go_ret
  refine ⟨rfl, IsMem.chg hm ch9 ?_ ?_, v', hI', hr', (ch.mono (fun i h => .inl (List.mem_append_left v0.ownBlock.toList h))).trans (ch9.mono (fun i h => .inl (by rcases List.mem_cons.1 h with rfl | h <;> first | exact List.mem_append_right [P, M, G, i] h | exact List.mem_append_right [P, M, G, L] h | (simp; done)))), ?_⟩
  · intro h
    rcases List.mem_cons.1 h with e | h
    · omega
    · have : v0.ownBlock = some M := by simpa using h
      exact (hv0 M this).1 rfl
  · intro h
    rcases List.mem_cons.1 h with e | h
    · omega
    · have : v0.ownBlock = some G := by simpa using h
      exact (hv0 G this).2.1 rfl
  · rcases hpl9 with e | ⟨g, e, hg⟩
    · exact .inl e
    · exact .inr ⟨g, e, by have := ch.size; omega⟩

set_option maxRecDepth 4000 in
set_option maxHeartbeats 8000000 in
theorem stp_push_go {w : World} {K : Cf} (hK : K.Ok) {M G L o : Nat} {m : MS} {tag : Nat} {F hs : List Nat} {cur : Array Value} {v0 : Value} {wv : Value} {la : Int} {P : Nat} {p p' : QS} {m' : MS} (hm : IsMem w M G m) (tp : Top K m.X tag F) (ht : 0 ≤ m.t ∧ m.t < 2305843009213693952) (hr : IsRow w L cur) (hL : L ≠ M ∧ L ≠ G) (h0 : cur[o]? = some v0) (h1 : cur[o + 1]? = some wv) (h4 : cur[o + 4]? = some (.int .i64 la)) (i0 : IsI w v0 hs) (hv0 : ∀ r, v0.ownBlock = some r → r ≠ M ∧ r ≠ G ∧ r ≠ L) (h2 : cur[o + 2]? = some (.pointer none)) (h3 : cur[o + 3]? = some (.pointer (some ⟨P, 0, none⟩))) (hp : IsPushS w P K p) (hP : P ≠ M ∧ P ≠ G ∧ P ≠ L) (hv0P : ∀ r, v0.ownBlock = some r → r ≠ P)
    (cst : ∀ wr, IsMem wr M G m → IsPushS wr P K p → Calls Try.prog 24 #[.pointer (some ⟨P, 0, none⟩), .pointer (some ⟨M, 0, none⟩)] wr fun e w' => e = .returned (.bool false) ∧ IsMem w' M G m' ∧ IsPushS w' P K p' ∧ Chg [P, M, G] wr w') (tp' : Top K m'.X tag F) (ht' : m'.t ≤ m.t + 1 ∧ 0 ≤ m'.t) :
    Calls Try.prog 12 #[.pointer (some ⟨L, o, none⟩), .agg K.cs, .pointer (some ⟨M, 0, none⟩)] w fun e w' => e = .returned (.bool true) ∧ IsMem w' M G m' ∧ IsPushS w' P K p' ∧ IsRow w' L cur ∧ IsI w' v0 hs ∧ Chg [P, M, G, L] w w' := by
  have hxs : F.length ≤ 65536 := by have := tp.len_le; have := hK.s64; omega
  have hPl := hp.lt
  have hMl := hm.M_lt
  have hGl := hm.G_lt
  have hN := hK.N_b
  have hh := cfg_new w K.S K.a K.C K.D K.g K.k
  have b0 := alloc_below w (.cells #[.int .i64 (K.S : Nat), .int .i64 K.a, .int .i64 (K.C : Nat), .int .i64 (K.D : Nat), .int .i64 K.g, .int .i64 K.k] 23)
  have ch : Chg [P, M, G, L] w w := Chg.refl _ w
  replace hm := hm.below b0
  replace hr := hr.below b0
  replace i0 := i0.below b0
  replace hp := hp.below b0
  replace ch := ch.then_below b0
  clear b0
  go_enter Try.func12, Try.ntmps12
  go_upto_region 1 with fail
  generalize w.alloc (.cells #[.int .i64 (K.S : Nat), .int .i64 K.a, .int .i64 (K.C : Nat), .int .i64 (K.D : Nat), .int .i64 K.g, .int .i64 K.k] 23) = w1 at *
  have hhl := hh.lt
  replace hm := hm.below (Below.refl w1.heap.size w1).drew
  replace hr := hr.below (Below.refl w1.heap.size w1).drew
  replace i0 := i0.below (Below.refl w1.heap.size w1).drew
  replace hp := hp.below (Below.refl w1.heap.size w1).drew
  replace hh := hh.below (Below.refl w1.heap.size w1).drew
  replace ch := ch.then_below (Below.refl w1.heap.size w1).drew
  go_region_held (fun wr => wr.cell? ⟨w.heap.size, 0, none⟩ = some (.int .i64 (K.S : Nat)) ∧ wr.cell? ⟨w.heap.size, 1, none⟩ = some (.int .i64 K.a) ∧ wr.cell? ⟨w.heap.size, 2, none⟩ = some (.int .i64 (K.C : Nat)) ∧ wr.cell? ⟨w.heap.size, 3, none⟩ = some (.int .i64 (K.D : Nat)) ∧ wr.cell? ⟨w.heap.size, 4, none⟩ = some (.int .i64 K.g) ∧ wr.cell? ⟨w.heap.size, 5, none⟩ = some (.int .i64 K.k)) (with_reducible exact hh.cells) (first
    | (go_at_call 14; with_reducible refine (words_m hK hm tp).mono ?_; rintro e w2 ⟨R, rfl, hw, hX, hb⟩; replace hm := hm.below hb; replace hr := hr.below hb; replace i0 := i0.below hb; replace hp := hp.below hb; replace hh := hh.below hb; replace ch := ch.then_below hb)
    | (go_at_call 13; with_reducible refine (rlist_m hK hw tp hX).mono ?_; rintro e w3 ⟨v1, rfl, i1, hv1, hb⟩; have hsz := hh.lt; replace hm := hm.below hb; replace hr := hr.below hb; replace i0 := i0.below hb; replace hp := hp.below hb; replace hh := hh.below hb; replace ch := ch.then_below hb))
  replace hv1 : ∀ r, v1.ownBlock = some r → w.heap.size < r := fun r h => by have := hv1 r h; omega
  clear hw hX hb
  go_upto_region 3 with (go_at_call 22; refine (Mm.touches_any hm).mono ?_; rintro e w4 ⟨rfl, rfl⟩)
  have nL : L ∉ [P, M, G] := by simp; omega
  have nC : w.heap.size ∉ [P, M, G] := by simp; omega
  have n0 : ∀ r, v0.ownBlock = some r → r ∉ [P, M, G] := fun r h => by have := hv0 r h; have := hv0P r h; simp; omega
  have n1 : ∀ r, v1.ownBlock = some r → r ∉ [P, M, G] := fun r h => by have := hv1 r h; simp; omega
  have c0 := hr.cell h0
  have c1 := hr.cell h1
  have c2 := hr.cell h2
  have c3 := hr.cell h3
  have c4 := hr.cell h4
  have fz := hr.free
  go_upto_region 21 with (go_at_call 24; with_reducible refine (cst _ hm hp).mono ?_; rintro e w5 ⟨rfl, hm', hp', ch5⟩)
  clear hm hp
  have hm := hm'
  have hp := hp'
  clear hm' hp'
  replace hr := hr.chg ch5 nL
  replace hh := hh.chg ch5 nC
  replace i0 := i0.chg ch5 n0
  replace i1 := i1.chg ch5 n1
  replace ch := ch.trans (ch5.mono (fun i h => .inl (by simp at h ⊢; omega)))
  clear c0 c1 c2 c3 c4 fz ch5
  replace hm := hm.below (Below.refl w5.heap.size w5).drew
  replace hr := hr.below (Below.refl w5.heap.size w5).drew
  replace hh := hh.below (Below.refl w5.heap.size w5).drew
  replace i0 := i0.below (Below.refl w5.heap.size w5).drew
  replace i1 := i1.below (Below.refl w5.heap.size w5).drew
  replace hp := hp.below (Below.refl w5.heap.size w5).drew
  replace ch := ch.then_below (Below.refl w5.heap.size w5).drew
  go_region_held (fun wr => wr.cell? ⟨w.heap.size, 0, none⟩ = some (.int .i64 (K.S : Nat)) ∧ wr.cell? ⟨w.heap.size, 1, none⟩ = some (.int .i64 K.a) ∧ wr.cell? ⟨w.heap.size, 2, none⟩ = some (.int .i64 (K.C : Nat)) ∧ wr.cell? ⟨w.heap.size, 3, none⟩ = some (.int .i64 (K.D : Nat)) ∧ wr.cell? ⟨w.heap.size, 4, none⟩ = some (.int .i64 K.g) ∧ wr.cell? ⟨w.heap.size, 5, none⟩ = some (.int .i64 K.k)) (with_reducible exact hh.cells) (first
    | (go_at_call 14; with_reducible refine (words_m hK hm tp').mono ?_; rintro e w6 ⟨R, rfl, hw, hX, hb⟩; replace hm := hm.below hb; replace hr := hr.below hb; replace hh := hh.below hb; replace i0 := i0.below hb; replace i1 := i1.below hb; replace hp := hp.below hb; replace ch := ch.then_below hb)
    | (go_at_call 13; with_reducible refine (rlist_m hK hw tp' hX).mono ?_; rintro e w7 ⟨v2, rfl, i2, hv2, hb⟩; have hMl := hm.M_lt; have hGl := hm.G_lt; have hrl := hr.lt; have hpl := hp.lt; have h0l := fun r h => i0.lt (g := r) h; replace hm := hm.below hb; replace hr := hr.below hb; replace hh := hh.below hb; replace i0 := i0.below hb; replace i1 := i1.below hb; replace hp := hp.below hb; replace ch := ch.then_below hb))
  clear hw hX hb
  go_upto_region 24 with (go_at_call 22; refine (Mm.touches_any hm).mono ?_; rintro e w8 ⟨rfl, rfl⟩)
  go_wp2_with (go_at_call 18; with_reducible refine (same_yes i1 i2 hxs).mono ?_; rintro e w9 ⟨rfl, hb⟩; replace hm := hm.below hb; replace hr := hr.below hb; replace hp := hp.below hb; replace ch := ch.then_below hb; replace i0 := i0.below hb)
  go_ret
  exact ⟨rfl, hm, hp, hr, i0, ch⟩

set_option maxRecDepth 4000 in
set_option maxHeartbeats 8000000 in
theorem stp_push_done {w : World} {K : Cf} (hK : K.Ok) {M G L o : Nat} {m : MS} {tag : Nat} {F hs : List Nat} {cur : Array Value} {v0 : Value} {wv : Value} {P s : Nat} {p p' : QS} {m' : MS} (hm : IsMem w M G m) (tp : Top K m.X tag F) (ht : 0 ≤ m.t ∧ m.t < 2305843009213693952) (hr : IsRow w L cur) (hL : L ≠ M ∧ L ≠ G) (h0 : cur[o]? = some v0) (h1 : cur[o + 1]? = some wv) (h4 : cur[o + 4]? = some (.int .i64 (s : Nat))) (i0 : IsI w v0 hs) (hv0 : ∀ r, v0.ownBlock = some r → r ≠ M ∧ r ≠ G ∧ r ≠ L) (h2 : cur[o + 2]? = some (.pointer none)) (h3 : cur[o + 3]? = some (.pointer (some ⟨P, 0, none⟩))) (hp : IsPushS w P K p) (hP : P ≠ M ∧ P ≠ G ∧ P ≠ L) (hv0P : ∀ r, v0.ownBlock = some r → r ≠ P)
    (cst : ∀ wr, IsMem wr M G m → IsPushS wr P K p → Calls Try.prog 24 #[.pointer (some ⟨P, 0, none⟩), .pointer (some ⟨M, 0, none⟩)] wr fun e w' => e = .returned (.bool true) ∧ IsMem w' M G m' ∧ IsPushS w' P K p' ∧ Chg [P, M, G] wr w') (tp' : Top K m'.X (tag + 1) (s :: F)) (ht' : m'.t ≤ m.t + 1 ∧ 0 ≤ m'.t) :
    Calls Try.prog 12 #[.pointer (some ⟨L, o, none⟩), .agg K.cs, .pointer (some ⟨M, 0, none⟩)] w fun e w' => e = .returned (.bool true) ∧ IsMem w' M G m' ∧ IsRow w' L ((cur.setIfInBounds (o + 2) (.pointer none)).setIfInBounds (o + 3) (.pointer none)) ∧ IsI w' v0 hs ∧ Chg [P, M, G, L] w w' := by
  have hPl := hp.lt
  have hMl := hm.M_lt
  have hGl := hm.G_lt
  have hLl := hr.lt
  have hFl : F.length ≤ 64 := by have := tp.len_le; have := hK.s64; omega
  have hN := hK.N_b
  have hh := cfg_new w K.S K.a K.C K.D K.g K.k
  have b0 := alloc_below w (.cells #[.int .i64 (K.S : Nat), .int .i64 K.a, .int .i64 (K.C : Nat), .int .i64 (K.D : Nat), .int .i64 K.g, .int .i64 K.k] 23)
  have ch : Chg [P, M, G, L] w w := Chg.refl _ w
  replace hm := hm.below b0
  replace hr := hr.below b0
  replace i0 := i0.below b0
  replace hp := hp.below b0
  replace ch := ch.then_below b0
  clear b0
  go_enter Try.func12, Try.ntmps12
  go_upto_region 1 with fail
  generalize w.alloc (.cells #[.int .i64 (K.S : Nat), .int .i64 K.a, .int .i64 (K.C : Nat), .int .i64 (K.D : Nat), .int .i64 K.g, .int .i64 K.k] 23) = w1 at *
  have hhl := hh.lt
  replace hm := hm.below (Below.refl w1.heap.size w1).drew
  replace hr := hr.below (Below.refl w1.heap.size w1).drew
  replace i0 := i0.below (Below.refl w1.heap.size w1).drew
  replace hp := hp.below (Below.refl w1.heap.size w1).drew
  replace hh := hh.below (Below.refl w1.heap.size w1).drew
  replace ch := ch.then_below (Below.refl w1.heap.size w1).drew
  go_region_held (fun wr => wr.cell? ⟨w.heap.size, 0, none⟩ = some (.int .i64 (K.S : Nat)) ∧ wr.cell? ⟨w.heap.size, 1, none⟩ = some (.int .i64 K.a) ∧ wr.cell? ⟨w.heap.size, 2, none⟩ = some (.int .i64 (K.C : Nat)) ∧ wr.cell? ⟨w.heap.size, 3, none⟩ = some (.int .i64 (K.D : Nat)) ∧ wr.cell? ⟨w.heap.size, 4, none⟩ = some (.int .i64 K.g) ∧ wr.cell? ⟨w.heap.size, 5, none⟩ = some (.int .i64 K.k)) (with_reducible exact hh.cells) (first
    | (go_at_call 14; with_reducible refine (words_m hK hm tp).mono ?_; rintro e w2 ⟨R, rfl, hw, hX, hb⟩; replace hm := hm.below hb; replace hr := hr.below hb; replace i0 := i0.below hb; replace hp := hp.below hb; replace hh := hh.below hb; replace ch := ch.then_below hb)
    | (go_at_call 13; with_reducible refine (rlist_m hK hw tp hX).mono ?_; rintro e w3 ⟨v1, rfl, i1, hv1, hb⟩; have hsz := hh.lt; replace hm := hm.below hb; replace hr := hr.below hb; replace i0 := i0.below hb; replace hp := hp.below hb; replace hh := hh.below hb; replace ch := ch.then_below hb))
  replace hv1 : ∀ r, v1.ownBlock = some r → w.heap.size < r := fun r h => by have := hv1 r h; omega
  clear hw hX hb
  go_upto_region 3 with (go_at_call 22; refine (Mm.touches_any hm).mono ?_; rintro e w4 ⟨rfl, rfl⟩)
  have nL : L ∉ [P, M, G] := by simp; omega
  have nC : w.heap.size ∉ [P, M, G] := by simp; omega
  have n0 : ∀ r, v0.ownBlock = some r → r ∉ [P, M, G] := fun r h => by have := hv0 r h; have := hv0P r h; simp; omega
  have n1 : ∀ r, v1.ownBlock = some r → r ∉ [P, M, G] := fun r h => by have := hv1 r h; simp; omega
  have c0 := hr.cell h0
  have c1 := hr.cell h1
  have c2 := hr.cell h2
  have c3 := hr.cell h3
  have c4 := hr.cell h4
  have fz := hr.free
  go_upto_region 21 with (go_at_call 24; with_reducible refine (cst _ hm hp).mono ?_; rintro e w5 ⟨rfl, hm', hp', ch5⟩)
  clear hm hp
  have hm := hm'
  have hp := hp'
  clear hm' hp'
  replace hr := hr.chg ch5 nL
  replace hh := hh.chg ch5 nC
  replace i0 := i0.chg ch5 n0
  replace i1 := i1.chg ch5 n1
  replace ch := ch.trans (ch5.mono (fun i h => .inl (by simp at h ⊢; omega)))
  clear c0 c1 c2 c3 c4 fz ch5
  replace hm := hm.below (Below.refl w5.heap.size w5).drew
  replace hr := hr.below (Below.refl w5.heap.size w5).drew
  replace hh := hh.below (Below.refl w5.heap.size w5).drew
  replace i0 := i0.below (Below.refl w5.heap.size w5).drew
  replace i1 := i1.below (Below.refl w5.heap.size w5).drew
  replace hp := hp.below (Below.refl w5.heap.size w5).drew
  replace ch := ch.then_below (Below.refl w5.heap.size w5).drew
  go_region_held (fun wr => wr.cell? ⟨w.heap.size, 0, none⟩ = some (.int .i64 (K.S : Nat)) ∧ wr.cell? ⟨w.heap.size, 1, none⟩ = some (.int .i64 K.a) ∧ wr.cell? ⟨w.heap.size, 2, none⟩ = some (.int .i64 (K.C : Nat)) ∧ wr.cell? ⟨w.heap.size, 3, none⟩ = some (.int .i64 (K.D : Nat)) ∧ wr.cell? ⟨w.heap.size, 4, none⟩ = some (.int .i64 K.g) ∧ wr.cell? ⟨w.heap.size, 5, none⟩ = some (.int .i64 K.k)) (with_reducible exact hh.cells) (first
    | (go_at_call 14; with_reducible refine (words_m hK hm tp').mono ?_; rintro e w6 ⟨R, rfl, hw, hX, hb⟩; replace hm := hm.below hb; replace hr := hr.below hb; replace hh := hh.below hb; replace i0 := i0.below hb; replace i1 := i1.below hb; replace hp := hp.below hb; replace ch := ch.then_below hb)
    | (go_at_call 13; with_reducible refine (rlist_m hK hw tp' hX).mono ?_; rintro e w7 ⟨v2, rfl, i2, hv2, hb⟩; have hMl := hm.M_lt; have hGl := hm.G_lt; have hrl := hr.lt; have hpl := hp.lt; have h0l := fun r h => i0.lt (g := r) h; replace hm := hm.below hb; replace hr := hr.below hb; replace hh := hh.below hb; replace i0 := i0.below hb; replace i1 := i1.below hb; replace hp := hp.below hb; replace ch := ch.then_below hb))
  clear hw hX hb
  go_upto_region 24 with (go_at_call 22; refine (Mm.touches_any hm).mono ?_; rintro e w8 ⟨rfl, rfl⟩)
  have nv1 : ∀ r, v1.ownBlock = some r → r ≠ L := fun r h => by have := hv1 r h; omega
  have nv2 : ∀ r, v2.ownBlock = some r → r ≠ L := fun r h => by have := hv2 r h; omega
  go_wp2_with (go_at_call 31; with_reducible refine (over_push hr h2 h3 h4 i1 i2 nv1 nv2 hFl).mono ?_; rintro e w9 ⟨rfl, hr', ch9⟩)
  go_ret
  exact ⟨rfl, IsMem.chg hm ch9 (by simp; omega) (by simp; omega), hr', i0.chg ch9 (fun r h => by have := hv0 r h; simp; omega), ch.trans (ch9.mono (fun i h => .inl (by simp at h ⊢; omega)))⟩
end Go.Proofs.Ytcfallaekedmkaa
