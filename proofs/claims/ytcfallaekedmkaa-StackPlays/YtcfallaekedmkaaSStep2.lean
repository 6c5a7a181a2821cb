/- The contract of the law's own 'step' where no machine is under way. -/
import Derived.Test.YtcfallaekedmkaaSStep
namespace Go.Proofs.Ytcfallaekedmkaa
open Go.RowKit
open Mm (IsMem MS zeroMS)
set_option linter.unusedVariables false

/-- A bool that came in. -/
def WB (w : World) (b off : Nat) (z : Bool) : Prop := b < w.heap.size ∧ w.cell? ⟨b, off, none⟩ = some (.bool z)
theorem WB.below {w w' : World} {b off : Nat} {z : Bool} (h : WB w b off z) (k : Below w.heap.size w w') : WB w' b off z := ⟨Nat.lt_of_lt_of_le h.1 k.size, (k.cell (p := ⟨b, off, none⟩) h.1).trans h.2⟩

set_option maxRecDepth 4000 in
set_option maxHeartbeats 4000000 in
theorem stp_idle {w : World} {K : Cf} (hK : K.Ok) {M G L o : Nat} {m : MS} {tag : Nat} {F hs : List Nat} {cur : Array Value} {v0 : Value} {wa : Option Addr} {wc : Nat} {la : Int} (hm : IsMem w M G m) (tp : Top K m.X tag F) (ht : 0 ≤ m.t ∧ m.t < 2305843009213693952) (hr : IsRow w L cur) (hL : L ≠ M ∧ L ≠ G) (h0 : cur[o]? = some v0) (h1 : cur[o + 1]? = some (.slice wa 0 wc)) (h4 : cur[o + 4]? = some (.int .i64 la)) (i0 : IsI w v0 hs) (hv0 : ∀ r, v0.ownBlock = some r → r ≠ M ∧ r ≠ G ∧ r ≠ L) (h2 : cur[o + 2]? = some (.pointer none)) (h3 : cur[o + 3]? = some (.pointer none)) :
    Calls Try.prog 12 #[.pointer (some ⟨L, o, none⟩), .agg K.cs, .pointer (some ⟨M, 0, none⟩)] w fun e w' => e = .returned (.bool true) ∧ IsMem w' M G m ∧ IsRow w' L cur ∧ IsI w' v0 hs ∧ Chg [L] w w' := by
  have hN := hK.N_b
  have hh := cfg_new w K.S K.a K.C K.D K.g K.k
  have b0 := alloc_below w (.cells #[.int .i64 (K.S : Nat), .int .i64 K.a, .int .i64 (K.C : Nat), .int .i64 (K.D : Nat), .int .i64 K.g, .int .i64 K.k] 23)
  have ch : Chg [L] w w := Chg.refl _ w
  replace hm := hm.below b0
  replace hr := hr.below b0
  replace i0 := i0.below b0
  replace ch := ch.then_below b0
  clear b0
  go_enter Try.func12, Try.ntmps12
  go_upto_region 1 with fail
  generalize w.alloc (.cells #[.int .i64 (K.S : Nat), .int .i64 K.a, .int .i64 (K.C : Nat), .int .i64 (K.D : Nat), .int .i64 K.g, .int .i64 K.k] 23) = w1 at *
  have hhl := hh.lt
  replace hm := hm.below (Below.refl w1.heap.size w1).drew
  replace hr := hr.below (Below.refl w1.heap.size w1).drew
  replace i0 := i0.below (Below.refl w1.heap.size w1).drew
  replace hh := hh.below (Below.refl w1.heap.size w1).drew
  replace ch := ch.then_below (Below.refl w1.heap.size w1).drew
  go_region_held (fun wr => wr.cell? ⟨w.heap.size, 0, none⟩ = some (.int .i64 (K.S : Nat)) ∧ wr.cell? ⟨w.heap.size, 1, none⟩ = some (.int .i64 K.a) ∧ wr.cell? ⟨w.heap.size, 2, none⟩ = some (.int .i64 (K.C : Nat)) ∧ wr.cell? ⟨w.heap.size, 3, none⟩ = some (.int .i64 (K.D : Nat)) ∧ wr.cell? ⟨w.heap.size, 4, none⟩ = some (.int .i64 K.g) ∧ wr.cell? ⟨w.heap.size, 5, none⟩ = some (.int .i64 K.k)) (with_reducible exact hh.cells) (first
    | (go_at_call 14; with_reducible refine (words_m hK hm tp).mono ?_; rintro e w2 ⟨R, rfl, hw, hX, hb⟩; replace hm := hm.below hb; replace hr := hr.below hb; replace i0 := i0.below hb; replace hh := hh.below hb; replace ch := ch.then_below hb)
    | (go_at_call 13; with_reducible refine (rlist_m hK hw tp hX).mono ?_; rintro e w3 ⟨v1, rfl, i1, hv1, hb⟩; have hsz := hh.lt; replace hm := hm.below hb; replace hr := hr.below hb; replace i0 := i0.below hb; replace hh := hh.below hb; replace ch := ch.then_below hb))
  replace hv1 : ∀ r, v1.ownBlock = some r → w.heap.size < r := fun r h => by have := hv1 r h; omega
  clear hw hX hb
  go_upto_region 3 with (go_at_call 22; refine (Mm.touches_any hm).mono ?_; rintro e w4 ⟨rfl, rfl⟩)
  have c0 := hr.cell h0
  have c1 := hr.cell h1
  have c2 := hr.cell h2
  have c3 := hr.cell h3
  have c4 := hr.cell h4
  have fz := hr.free
  go_wp2
  go_ret
  exact ⟨rfl, hm, hr, i0, ch⟩

set_option maxRecDepth 4000 in
set_option maxHeartbeats 4000000 in
theorem stp_skip {w : World} {K : Cf} (hK : K.Ok) {M G L o : Nat} {m : MS} {tag : Nat} {F hs : List Nat} {cur : Array Value} {v0 : Value} {wb wo n wc : Nat} {la : Int} (hm : IsMem w M G m) (tp : Top K m.X tag F) (ht : 0 ≤ m.t ∧ m.t < 2305843009213693952) (hr : IsRow w L cur) (hL : L ≠ M ∧ L ≠ G) (h0 : cur[o]? = some v0) (h1 : cur[o + 1]? = some (.slice (some ⟨wb, wo, none⟩) (n + 1) wc)) (hwc : n + 1 ≤ wc) (h4 : cur[o + 4]? = some (.int .i64 la)) (i0 : IsI w v0 []) (hv0 : ∀ r, v0.ownBlock = some r → r ≠ M ∧ r ≠ G ∧ r ≠ L) {nad : Option Addr} (HN : Hid ((if wc = 1 then some ⟨wb, wo, none⟩ else some ⟨wb, wo + 1, none⟩) = nad)) (h2 : cur[o + 2]? = some (.pointer none)) (h3 : cur[o + 3]? = some (.pointer none)) (hz : WB w wb wo false) :
    Calls Try.prog 12 #[.pointer (some ⟨L, o, none⟩), .agg K.cs, .pointer (some ⟨M, 0, none⟩)] w fun e w' => e = .returned (.bool true) ∧ IsMem w' M G m ∧ IsRow w' L (cur.setIfInBounds (o + 1) (.slice nad n (wc - 1))) ∧ IsI w' v0 [] ∧ Chg [L] w w' := by
  have hLl := hr.lt
  have hN := hK.N_b
  have hh := cfg_new w K.S K.a K.C K.D K.g K.k
  have b0 := alloc_below w (.cells #[.int .i64 (K.S : Nat), .int .i64 K.a, .int .i64 (K.C : Nat), .int .i64 (K.D : Nat), .int .i64 K.g, .int .i64 K.k] 23)
  have ch : Chg [L] w w := Chg.refl _ w
  replace hm := hm.below b0
  replace hr := hr.below b0
  replace i0 := i0.below b0
  replace hz := hz.below b0
  replace ch := ch.then_below b0
  clear b0
  go_enter Try.func12, Try.ntmps12
  go_upto_region 1 with fail
  generalize w.alloc (.cells #[.int .i64 (K.S : Nat), .int .i64 K.a, .int .i64 (K.C : Nat), .int .i64 (K.D : Nat), .int .i64 K.g, .int .i64 K.k] 23) = w1 at *
  have hhl := hh.lt
  replace hm := hm.below (Below.refl w1.heap.size w1).drew
  replace hr := hr.below (Below.refl w1.heap.size w1).drew
  replace i0 := i0.below (Below.refl w1.heap.size w1).drew
  replace hz := hz.below (Below.refl w1.heap.size w1).drew
  replace hh := hh.below (Below.refl w1.heap.size w1).drew
  replace ch := ch.then_below (Below.refl w1.heap.size w1).drew
  go_region_held (fun wr => wr.cell? ⟨w.heap.size, 0, none⟩ = some (.int .i64 (K.S : Nat)) ∧ wr.cell? ⟨w.heap.size, 1, none⟩ = some (.int .i64 K.a) ∧ wr.cell? ⟨w.heap.size, 2, none⟩ = some (.int .i64 (K.C : Nat)) ∧ wr.cell? ⟨w.heap.size, 3, none⟩ = some (.int .i64 (K.D : Nat)) ∧ wr.cell? ⟨w.heap.size, 4, none⟩ = some (.int .i64 K.g) ∧ wr.cell? ⟨w.heap.size, 5, none⟩ = some (.int .i64 K.k)) (with_reducible exact hh.cells) (first
    | (go_at_call 14; with_reducible refine (words_m hK hm tp).mono ?_; rintro e w2 ⟨R, rfl, hw, hX, hb⟩; replace hm := hm.below hb; replace hr := hr.below hb; replace i0 := i0.below hb; replace hz := hz.below hb; replace hh := hh.below hb; replace ch := ch.then_below hb)
    | (go_at_call 13; with_reducible refine (rlist_m hK hw tp hX).mono ?_; rintro e w3 ⟨v1, rfl, i1, hv1, hb⟩; have hsz := hh.lt; replace hm := hm.below hb; replace hr := hr.below hb; replace i0 := i0.below hb; replace hz := hz.below hb; replace hh := hh.below hb; replace ch := ch.then_below hb))
  replace hv1 : ∀ r, v1.ownBlock = some r → w.heap.size < r := fun r h => by have := hv1 r h; omega
  clear hw hX hb
  go_upto_region 3 with (go_at_call 22; refine (Mm.touches_any hm).mono ?_; rintro e w4 ⟨rfl, rfl⟩)
  have nv1 : ∀ r, v1.ownBlock = some r → r ≠ L := fun r h => by have := hv1 r h; omega
  have c0 := hr.cell h0
  have c1 := hr.cell h1
  have c2 := hr.cell h2
  have c3 := hr.cell h3
  have c4 := hr.cell h4
  have fz := hr.free
  have z0 := hz.2
  go_upto_region 8 with fail
  clear c0 c1 c2 c3 c4 fz z0 hz
  replace hm := mem_set (i := o + 1) hm hL.1 hL.2 (.slice (if wc = 1 then some ⟨wb, wo, none⟩ else some ⟨wb, wo + 1, none⟩) n (wc - 1))
  replace hr := hr.set (o + 1) (.slice (if wc = 1 then some ⟨wb, wo, none⟩ else some ⟨wb, wo + 1, none⟩) n (wc - 1))
  replace hh := hh.chg ((Chg.refl [L] w3).setCell (b := L) (o := o + 1) (by simp) (.slice (if wc = 1 then some ⟨wb, wo, none⟩ else some ⟨wb, wo + 1, none⟩) n (wc - 1))) (by simp; omega)
  replace i0 := i0.set (i := o + 1) (fun r h => (hv0 r h).2.2) (.slice (if wc = 1 then some ⟨wb, wo, none⟩ else some ⟨wb, wo + 1, none⟩) n (wc - 1))
  replace i1 := i1.set (i := o + 1) nv1 (.slice (if wc = 1 then some ⟨wb, wo, none⟩ else some ⟨wb, wo + 1, none⟩) n (wc - 1))
  replace ch := ch.setCell (b := L) (o := o + 1) (by simp) (.slice (if wc = 1 then some ⟨wb, wo, none⟩ else some ⟨wb, wo + 1, none⟩) n (wc - 1))
  generalize w3.setCell ⟨L, o + 1, none⟩ (.slice (if wc = 1 then some ⟨wb, wo, none⟩ else some ⟨wb, wo + 1, none⟩) n (wc - 1)) = w5 at *
  rw [HN.out] at hr ⊢
  have k0 : (cur.setIfInBounds (o + 1) (.slice nad n (wc - 1)))[o]? = some v0 := by rw [set_ne (by omega)]; exact h0
  obtain ⟨ad0, cp0, rfl, _, _⟩ := i0.form
  rw [List.length_nil] at *
  have c0 := hr.cell k0
  go_wp2
  go_ret
  exact ⟨rfl, hm, hr, i0, ch⟩

set_option maxRecDepth 4000 in
set_option maxHeartbeats 8000000 in
theorem stp_newpop_go {w : World} {K : Cf} (hK : K.Ok) {M G L o : Nat} {m : MS} {tag : Nat} {F hs : List Nat} {cur : Array Value} {v0 : Value} {wb wo n wc : Nat} {la : Int} {p' : PS} {m' : MS} (hm : IsMem w M G m) (tp : Top K m.X tag F) (ht : 0 ≤ m.t ∧ m.t < 2305843009213693952) (hr : IsRow w L cur) (hL : L ≠ M ∧ L ≠ G) (h0 : cur[o]? = some v0) (h1 : cur[o + 1]? = some (.slice (some ⟨wb, wo, none⟩) (n + 1) wc)) (hwc : n + 1 ≤ wc) (h4 : cur[o + 4]? = some (.int .i64 la)) (i0 : IsI w v0 hs) (hv0 : ∀ r, v0.ownBlock = some r → r ≠ M ∧ r ≠ G ∧ r ≠ L) {nad : Option Addr} (HN : Hid ((if wc = 1 then some ⟨wb, wo, none⟩ else some ⟨wb, wo + 1, none⟩) = nad)) (h2 : cur[o + 2]? = some (.pointer none)) (h3 : cur[o + 3]? = some (.pointer none)) (hz : WB w wb wo true)
    (cst0 : ∀ P wr, P ≠ M → P ≠ G → IsMem wr M G m → IsPopS wr P K pop0 → Calls Try.prog 21 #[.pointer (some ⟨P, 0, none⟩), .pointer (some ⟨M, 0, none⟩)] wr fun e w' => e = .returned (.bool false) ∧ IsMem w' M G m' ∧ IsPopS w' P K p' ∧ Chg [P, M, G] wr w') (tp' : Top K m'.X tag F) (ht' : m'.t ≤ m.t + 1 ∧ 0 ≤ m'.t) :
    Calls Try.prog 12 #[.pointer (some ⟨L, o, none⟩), .agg K.cs, .pointer (some ⟨M, 0, none⟩)] w fun e w' => e = .returned (.bool true) ∧ IsMem w' M G m' ∧ ∃ P, IsPopS w' P K p' ∧ IsRow w' L ((cur.setIfInBounds (o + 1) (.slice nad n (wc - 1))).setIfInBounds (o + 2) (.pointer (some ⟨P, 0, none⟩))) ∧ IsI w' v0 hs ∧ Chg [P, M, G, L] w w' ∧ w.heap.size ≤ P := by
  have hMl := hm.M_lt
  have hGl := hm.G_lt
  have hLl := hr.lt
  have h0e := fun r h => i0.lt (g := r) h
  have c20 := newPop_K hK
  have hxs : F.length ≤ 65536 := by have := tp.len_le; have := hK.s64; omega
  have hN := hK.N_b
  have hh := cfg_new w K.S K.a K.C K.D K.g K.k
  have b0 := alloc_below w (.cells #[.int .i64 (K.S : Nat), .int .i64 K.a, .int .i64 (K.C : Nat), .int .i64 (K.D : Nat), .int .i64 K.g, .int .i64 K.k] 23)
  have ch : Chg [M, G, L] w w := Chg.refl _ w
  replace hm := hm.below b0
  replace hr := hr.below b0
  replace i0 := i0.below b0
  replace hz := hz.below b0
  replace ch := ch.then_below b0
  clear b0
  go_enter Try.func12, Try.ntmps12
  go_upto_region 1 with fail
  generalize w.alloc (.cells #[.int .i64 (K.S : Nat), .int .i64 K.a, .int .i64 (K.C : Nat), .int .i64 (K.D : Nat), .int .i64 K.g, .int .i64 K.k] 23) = w1 at *
  have hhl := hh.lt
  replace hm := hm.below (Below.refl w1.heap.size w1).drew
  replace hr := hr.below (Below.refl w1.heap.size w1).drew
  replace i0 := i0.below (Below.refl w1.heap.size w1).drew
  replace hz := hz.below (Below.refl w1.heap.size w1).drew
  replace hh := hh.below (Below.refl w1.heap.size w1).drew
  replace ch := ch.then_below (Below.refl w1.heap.size w1).drew
  go_region_held (fun wr => wr.cell? ⟨w.heap.size, 0, none⟩ = some (.int .i64 (K.S : Nat)) ∧ wr.cell? ⟨w.heap.size, 1, none⟩ = some (.int .i64 K.a) ∧ wr.cell? ⟨w.heap.size, 2, none⟩ = some (.int .i64 (K.C : Nat)) ∧ wr.cell? ⟨w.heap.size, 3, none⟩ = some (.int .i64 (K.D : Nat)) ∧ wr.cell? ⟨w.heap.size, 4, none⟩ = some (.int .i64 K.g) ∧ wr.cell? ⟨w.heap.size, 5, none⟩ = some (.int .i64 K.k)) (with_reducible exact hh.cells) (first
    | (go_at_call 14; with_reducible refine (words_m hK hm tp).mono ?_; rintro e w2 ⟨R, rfl, hw, hX, hb⟩; replace hm := hm.below hb; replace hr := hr.below hb; replace i0 := i0.below hb; replace hz := hz.below hb; replace hh := hh.below hb; replace ch := ch.then_below hb)
    | (go_at_call 13; with_reducible refine (rlist_m hK hw tp hX).mono ?_; rintro e w3 ⟨v1, rfl, i1, hv1, hb⟩; have hsz := hh.lt; replace hm := hm.below hb; replace hr := hr.below hb; replace i0 := i0.below hb; replace hz := hz.below hb; replace hh := hh.below hb; replace ch := ch.then_below hb))
  replace hv1 : ∀ r, v1.ownBlock = some r → w.heap.size < r := fun r h => by have := hv1 r h; omega
  clear hw hX hb
  go_upto_region 3 with (go_at_call 22; refine (Mm.touches_any hm).mono ?_; rintro e w4 ⟨rfl, rfl⟩)
  have nv1 : ∀ r, v1.ownBlock = some r → r ≠ L := fun r h => by have := hv1 r h; omega
  have c0 := hr.cell h0
  have c1 := hr.cell h1
  have c2 := hr.cell h2
  have c3 := hr.cell h3
  have c4 := hr.cell h4
  have fz := hr.free
  have z0 := hz.2
  go_upto_region 8 with fail
  clear c0 c1 c2 c3 c4 fz z0 hz
  replace hm := mem_set (i := o + 1) hm hL.1 hL.2 (.slice (if wc = 1 then some ⟨wb, wo, none⟩ else some ⟨wb, wo + 1, none⟩) n (wc - 1))
  replace hr := hr.set (o + 1) (.slice (if wc = 1 then some ⟨wb, wo, none⟩ else some ⟨wb, wo + 1, none⟩) n (wc - 1))
  replace hh := hh.chg ((Chg.refl [L] w3).setCell (b := L) (o := o + 1) (by simp) (.slice (if wc = 1 then some ⟨wb, wo, none⟩ else some ⟨wb, wo + 1, none⟩) n (wc - 1))) (by simp; omega)
  replace i0 := i0.set (i := o + 1) (fun r h => (hv0 r h).2.2) (.slice (if wc = 1 then some ⟨wb, wo, none⟩ else some ⟨wb, wo + 1, none⟩) n (wc - 1))
  replace i1 := i1.set (i := o + 1) nv1 (.slice (if wc = 1 then some ⟨wb, wo, none⟩ else some ⟨wb, wo + 1, none⟩) n (wc - 1))
  replace ch := ch.setCell (b := L) (o := o + 1) (by simp) (.slice (if wc = 1 then some ⟨wb, wo, none⟩ else some ⟨wb, wo + 1, none⟩) n (wc - 1))
  generalize w3.setCell ⟨L, o + 1, none⟩ (.slice (if wc = 1 then some ⟨wb, wo, none⟩ else some ⟨wb, wo + 1, none⟩) n (wc - 1)) = w5 at *
  rw [HN.out] at hr ⊢
  have k0 : (cur.setIfInBounds (o + 1) (.slice nad n (wc - 1)))[o]? = some v0 := by rw [set_ne (by omega)]; exact h0
  have k1 : (cur.setIfInBounds (o + 1) (.slice nad n (wc - 1)))[o + 1]? = some (.slice nad n (wc - 1)) := set_eq h1
  have k2 : (cur.setIfInBounds (o + 1) (.slice nad n (wc - 1)))[o + 2]? = some (.pointer none) := by rw [set_ne (by omega)]; exact h2
  have k3 : (cur.setIfInBounds (o + 1) (.slice nad n (wc - 1)))[o + 3]? = some (.pointer none) := by rw [set_ne (by omega)]; exact h3
  have k4 : (cur.setIfInBounds (o + 1) (.slice nad n (wc - 1)))[o + 4]? = some (.int .i64 la) := by rw [set_ne (by omega)]; exact h4
  obtain ⟨cur1, hc1⟩ : ∃ c, cur.setIfInBounds (o + 1) (.slice nad n (wc - 1)) = c := ⟨_, rfl⟩
  rw [hc1] at hr k0 k1 k2 k3 k4
  have HC : Hid (cur.setIfInBounds (o + 1) (.slice nad n (wc - 1)) = cur1) := hc1
  clear hc1 h0 h1 h2 h3 h4
  obtain ⟨l0, l1, l2, l3, l4, l5⟩ := hh.cells
  have i1l := fun r h => i1.lt (g := r) h
  have hs5 := hh.lt
  go_upto_region 15 with (go_at_call 20; refine (c20 _).mono ?_; rintro e w6 ⟨P, rfl, hp, hP, hb⟩; replace hm := hm.below hb; replace hr := hr.below hb; replace hh := hh.below hb; replace i0 := i0.below hb; replace i1 := i1.below hb; replace ch := ch.then_below hb; have c2 := hr.cell k2; have fz := hr.free)
  clear c2 fz l0 l1 l2 l3 l4 l5 hb
  have hhl2 := hh.lt
  replace hm := mem_set (i := o + 2) hm hL.1 hL.2 (.pointer (some ⟨P, 0, none⟩))
  replace hr := hr.set (o + 2) (.pointer (some ⟨P, 0, none⟩))
  replace hh := hh.chg ((Chg.refl [L] w6).setCell (b := L) (o := o + 2) (by simp) (.pointer (some ⟨P, 0, none⟩))) (by simp; omega)
  replace i0 := i0.set (i := o + 2) (fun r h => (hv0 r h).2.2) (.pointer (some ⟨P, 0, none⟩))
  replace i1 := i1.set (i := o + 2) nv1 (.pointer (some ⟨P, 0, none⟩))
  replace hp := hp.chg ((Chg.refl [L] w6).setCell (b := L) (o := o + 2) (by simp) (.pointer (some ⟨P, 0, none⟩))) (by simp; omega)
  replace ch := ch.setCell (b := L) (o := o + 2) (by simp) (.pointer (some ⟨P, 0, none⟩))
  generalize w6.setCell ⟨L, o + 2, none⟩ (.pointer (some ⟨P, 0, none⟩)) = w7 at *
  replace k0 : (cur1.setIfInBounds (o + 2) (.pointer (some ⟨P, 0, none⟩)))[o]? = some v0 := by rw [set_ne (by omega)]; exact k0
  replace k1 : (cur1.setIfInBounds (o + 2) (.pointer (some ⟨P, 0, none⟩)))[o + 1]? = some (.slice nad n (wc - 1)) := by rw [set_ne (by omega)]; exact k1
  replace k2 : (cur1.setIfInBounds (o + 2) (.pointer (some ⟨P, 0, none⟩)))[o + 2]? = some (.pointer (some ⟨P, 0, none⟩)) := set_eq k2
  replace k3 : (cur1.setIfInBounds (o + 2) (.pointer (some ⟨P, 0, none⟩)))[o + 3]? = some (.pointer none) := by rw [set_ne (by omega)]; exact k3
  replace k4 : (cur1.setIfInBounds (o + 2) (.pointer (some ⟨P, 0, none⟩)))[o + 4]? = some (.int .i64 la) := by rw [set_ne (by omega)]; exact k4
  replace ch : Chg [P, M, G, L] w w7 := ch.mono (fun i h => .inl (by simp at h ⊢; omega))
  have hv0P : ∀ r, v0.ownBlock = some r → r ≠ P := fun r h => by have := h0e r h; omega
  have cst := cst0 P
  replace cst := fun wr a b => cst wr (by omega) (by omega) a b
  have nL : L ∉ [P, M, G] := by simp; omega
  have nC : w.heap.size ∉ [P, M, G] := by simp; omega
  have n0 : ∀ r, v0.ownBlock = some r → r ∉ [P, M, G] := fun r h => by have := hv0 r h; have := hv0P r h; simp; omega
  have n1 : ∀ r, v1.ownBlock = some r → r ∉ [P, M, G] := fun r h => by have := hv1 r h; have := i1l r h; simp; omega
  have hPw : w.heap.size ≤ P := by omega
  have hPL : P ≠ L := by omega
  have c0 := hr.cell k0
  have c1 := hr.cell k1
  have c2 := hr.cell k2
  have c3 := hr.cell k3
  have c4 := hr.cell k4
  have fz := hr.free
  go_upto_region 21 with (go_at_call 21; with_reducible refine (cst _ hm hp).mono ?_; rintro e w5 ⟨rfl, hm', hp', ch5⟩)
  clear hm hp
  have hm := hm'
  have hp := hp'
  clear hm' hp'
  replace hr := hr.chg ch5 nL
  replace hh := hh.chg ch5 nC
  replace i0 := i0.chg ch5 n0
  replace i1 := i1.chg ch5 n1
  replace ch := ch.trans (ch5.mono (fun i h => .inl (by simp at h ⊢; omega)))
  clear c0 c1 c2 c3 c4 fz ch5
  replace hm := hm.below (Below.refl w5.heap.size w5).drew
  replace hr := hr.below (Below.refl w5.heap.size w5).drew
  replace hh := hh.below (Below.refl w5.heap.size w5).drew
  replace i0 := i0.below (Below.refl w5.heap.size w5).drew
  replace i1 := i1.below (Below.refl w5.heap.size w5).drew
  replace hp := hp.below (Below.refl w5.heap.size w5).drew
  replace ch := ch.then_below (Below.refl w5.heap.size w5).drew
  go_region_held (fun wr => wr.cell? ⟨w.heap.size, 0, none⟩ = some (.int .i64 (K.S : Nat)) ∧ wr.cell? ⟨w.heap.size, 1, none⟩ = some (.int .i64 K.a) ∧ wr.cell? ⟨w.heap.size, 2, none⟩ = some (.int .i64 (K.C : Nat)) ∧ wr.cell? ⟨w.heap.size, 3, none⟩ = some (.int .i64 (K.D : Nat)) ∧ wr.cell? ⟨w.heap.size, 4, none⟩ = some (.int .i64 K.g) ∧ wr.cell? ⟨w.heap.size, 5, none⟩ = some (.int .i64 K.k)) (with_reducible exact hh.cells) (first
    | (go_at_call 14; with_reducible refine (words_m hK hm tp').mono ?_; rintro e w6 ⟨R, rfl, hw, hX, hb⟩; replace hm := hm.below hb; replace hr := hr.below hb; replace hh := hh.below hb; replace i0 := i0.below hb; replace i1 := i1.below hb; replace hp := hp.below hb; replace ch := ch.then_below hb)
    | (go_at_call 13; with_reducible refine (rlist_m hK hw tp' hX).mono ?_; rintro e w7 ⟨v2, rfl, i2, hv2, hb⟩; have hMl := hm.M_lt; have hGl := hm.G_lt; have hrl := hr.lt; have hpl := hp.lt; have h0l := fun r h => i0.lt (g := r) h; replace hm := hm.below hb; replace hr := hr.below hb; replace hh := hh.below hb; replace i0 := i0.below hb; replace i1 := i1.below hb; replace hp := hp.below hb; replace ch := ch.then_below hb))
  clear hw hX hb
  go_upto_region 24 with (go_at_call 22; refine (Mm.touches_any hm).mono ?_; rintro e w8 ⟨rfl, rfl⟩)
  go_wp2_with (go_at_call 18; with_reducible refine (same_yes i1 i2 hxs).mono ?_; rintro e w9 ⟨rfl, hb⟩; replace hm := hm.below hb; replace hr := hr.below hb; replace hp := hp.below hb; replace ch := ch.then_below hb; replace i0 := i0.below hb)
  go_ret
  exact ⟨rfl, hm, P, hp, by rw [HC.out]; exact hr, i0, ch, hPw⟩

set_option maxRecDepth 4000 in
set_option maxHeartbeats 8000000 in
theorem stp_newpop_empty {w : World} {K : Cf} (hK : K.Ok) {M G L o : Nat} {m : MS} {tag : Nat} {F hs : List Nat} {cur : Array Value} {v0 : Value} {wb wo n wc : Nat} {la : Int} {p' : PS} {m' : MS} (hm : IsMem w M G m) (tp : Top K m.X tag []) (ht : 0 ≤ m.t ∧ m.t < 2305843009213693952) (hr : IsRow w L cur) (hL : L ≠ M ∧ L ≠ G) (h0 : cur[o]? = some v0) (h1 : cur[o + 1]? = some (.slice (some ⟨wb, wo, none⟩) (n + 1) wc)) (hwc : n + 1 ≤ wc) (h4 : cur[o + 4]? = some (.int .i64 la)) (i0 : IsI w v0 hs) (hv0 : ∀ r, v0.ownBlock = some r → r ≠ M ∧ r ≠ G ∧ r ≠ L) {nad : Option Addr} (HN : Hid ((if wc = 1 then some ⟨wb, wo, none⟩ else some ⟨wb, wo + 1, none⟩) = nad)) (h2 : cur[o + 2]? = some (.pointer none)) (h3 : cur[o + 3]? = some (.pointer none)) (hz : WB w wb wo true)
    (cst0 : ∀ P wr, P ≠ M → P ≠ G → IsMem wr M G m → IsPopS wr P K pop0 → Calls Try.prog 21 #[.pointer (some ⟨P, 0, none⟩), .pointer (some ⟨M, 0, none⟩)] wr fun e w' => e = .returned (.bool true) ∧ IsMem w' M G m' ∧ IsPopS w' P K p' ∧ Chg [P, M, G] wr w') (tp' : Top K m'.X tag []) (ht' : m'.t ≤ m.t + 1 ∧ 0 ≤ m'.t) (hp1 : p'.sl = -1) (hp2 : p'.em = true) :
    Calls Try.prog 12 #[.pointer (some ⟨L, o, none⟩), .agg K.cs, .pointer (some ⟨M, 0, none⟩)] w fun e w' => e = .returned (.bool true) ∧ IsMem w' M G m' ∧ ∃ P, IsRow w' L (((cur.setIfInBounds (o + 1) (.slice nad n (wc - 1))).setIfInBounds (o + 2) (.pointer (some ⟨P, 0, none⟩))).setIfInBounds (o + 2) (.pointer none)) ∧ IsI w' v0 hs ∧ Chg [P, M, G, L] w w' ∧ w.heap.size ≤ P := by
  have hMl := hm.M_lt
  have hGl := hm.G_lt
  have hLl := hr.lt
  have h0e := fun r h => i0.lt (g := r) h
  have c20 := newPop_K hK
  have hN := hK.N_b
  have hh := cfg_new w K.S K.a K.C K.D K.g K.k
  have b0 := alloc_below w (.cells #[.int .i64 (K.S : Nat), .int .i64 K.a, .int .i64 (K.C : Nat), .int .i64 (K.D : Nat), .int .i64 K.g, .int .i64 K.k] 23)
  have ch : Chg [M, G, L] w w := Chg.refl _ w
  replace hm := hm.below b0
  replace hr := hr.below b0
  replace i0 := i0.below b0
  replace hz := hz.below b0
  replace ch := ch.then_below b0
  clear b0
  go_enter Try.func12, Try.ntmps12
  go_upto_region 1 with fail
  generalize w.alloc (.cells #[.int .i64 (K.S : Nat), .int .i64 K.a, .int .i64 (K.C : Nat), .int .i64 (K.D : Nat), .int .i64 K.g, .int .i64 K.k] 23) = w1 at *
  have hhl := hh.lt
  replace hm := hm.below (Below.refl w1.heap.size w1).drew
  replace hr := hr.below (Below.refl w1.heap.size w1).drew
  replace i0 := i0.below (Below.refl w1.heap.size w1).drew
  replace hz := hz.below (Below.refl w1.heap.size w1).drew
  replace hh := hh.below (Below.refl w1.heap.size w1).drew
  replace ch := ch.then_below (Below.refl w1.heap.size w1).drew
  go_region_held (fun wr => wr.cell? ⟨w.heap.size, 0, none⟩ = some (.int .i64 (K.S : Nat)) ∧ wr.cell? ⟨w.heap.size, 1, none⟩ = some (.int .i64 K.a) ∧ wr.cell? ⟨w.heap.size, 2, none⟩ = some (.int .i64 (K.C : Nat)) ∧ wr.cell? ⟨w.heap.size, 3, none⟩ = some (.int .i64 (K.D : Nat)) ∧ wr.cell? ⟨w.heap.size, 4, none⟩ = some (.int .i64 K.g) ∧ wr.cell? ⟨w.heap.size, 5, none⟩ = some (.int .i64 K.k)) (with_reducible exact hh.cells) (first
    | (go_at_call 14; with_reducible refine (words_m hK hm tp).mono ?_; rintro e w2 ⟨R, rfl, hw, hX, hb⟩; replace hm := hm.below hb; replace hr := hr.below hb; replace i0 := i0.below hb; replace hz := hz.below hb; replace hh := hh.below hb; replace ch := ch.then_below hb)
    | (go_at_call 13; with_reducible refine (rlist_m hK hw tp hX).mono ?_; rintro e w3 ⟨v1, rfl, i1, hv1, hb⟩; have hsz := hh.lt; replace hm := hm.below hb; replace hr := hr.below hb; replace i0 := i0.below hb; replace hz := hz.below hb; replace hh := hh.below hb; replace ch := ch.then_below hb))
  replace hv1 : ∀ r, v1.ownBlock = some r → w.heap.size < r := fun r h => by have := hv1 r h; omega
  clear hw hX hb
  go_upto_region 3 with (go_at_call 22; refine (Mm.touches_any hm).mono ?_; rintro e w4 ⟨rfl, rfl⟩)
  have nv1 : ∀ r, v1.ownBlock = some r → r ≠ L := fun r h => by have := hv1 r h; omega
  have c0 := hr.cell h0
  have c1 := hr.cell h1
  have c2 := hr.cell h2
  have c3 := hr.cell h3
  have c4 := hr.cell h4
  have fz := hr.free
  have z0 := hz.2
  go_upto_region 8 with fail
  clear c0 c1 c2 c3 c4 fz z0 hz
  replace hm := mem_set (i := o + 1) hm hL.1 hL.2 (.slice (if wc = 1 then some ⟨wb, wo, none⟩ else some ⟨wb, wo + 1, none⟩) n (wc - 1))
  replace hr := hr.set (o + 1) (.slice (if wc = 1 then some ⟨wb, wo, none⟩ else some ⟨wb, wo + 1, none⟩) n (wc - 1))
  replace hh := hh.chg ((Chg.refl [L] w3).setCell (b := L) (o := o + 1) (by simp) (.slice (if wc = 1 then some ⟨wb, wo, none⟩ else some ⟨wb, wo + 1, none⟩) n (wc - 1))) (by simp; omega)
  replace i0 := i0.set (i := o + 1) (fun r h => (hv0 r h).2.2) (.slice (if wc = 1 then some ⟨wb, wo, none⟩ else some ⟨wb, wo + 1, none⟩) n (wc - 1))
  replace i1 := i1.set (i := o + 1) nv1 (.slice (if wc = 1 then some ⟨wb, wo, none⟩ else some ⟨wb, wo + 1, none⟩) n (wc - 1))
  replace ch := ch.setCell (b := L) (o := o + 1) (by simp) (.slice (if wc = 1 then some ⟨wb, wo, none⟩ else some ⟨wb, wo + 1, none⟩) n (wc - 1))
  generalize w3.setCell ⟨L, o + 1, none⟩ (.slice (if wc = 1 then some ⟨wb, wo, none⟩ else some ⟨wb, wo + 1, none⟩) n (wc - 1)) = w5 at *
  rw [HN.out] at hr ⊢
  have k0 : (cur.setIfInBounds (o + 1) (.slice nad n (wc - 1)))[o]? = some v0 := by rw [set_ne (by omega)]; exact h0
  have k1 : (cur.setIfInBounds (o + 1) (.slice nad n (wc - 1)))[o + 1]? = some (.slice nad n (wc - 1)) := set_eq h1
  have k2 : (cur.setIfInBounds (o + 1) (.slice nad n (wc - 1)))[o + 2]? = some (.pointer none) := by rw [set_ne (by omega)]; exact h2
  have k3 : (cur.setIfInBounds (o + 1) (.slice nad n (wc - 1)))[o + 3]? = some (.pointer none) := by rw [set_ne (by omega)]; exact h3
  have k4 : (cur.setIfInBounds (o + 1) (.slice nad n (wc - 1)))[o + 4]? = some (.int .i64 la) := by rw [set_ne (by omega)]; exact h4
  obtain ⟨cur1, hc1⟩ : ∃ c, cur.setIfInBounds (o + 1) (.slice nad n (wc - 1)) = c := ⟨_, rfl⟩
  rw [hc1] at hr k0 k1 k2 k3 k4
  have HC : Hid (cur.setIfInBounds (o + 1) (.slice nad n (wc - 1)) = cur1) := hc1
  clear hc1 h0 h1 h2 h3 h4
  obtain ⟨l0, l1, l2, l3, l4, l5⟩ := hh.cells
  have i1l := fun r h => i1.lt (g := r) h
  have hs5 := hh.lt
  go_upto_region 15 with (go_at_call 20; refine (c20 _).mono ?_; rintro e w6 ⟨P, rfl, hp, hP, hb⟩; replace hm := hm.below hb; replace hr := hr.below hb; replace hh := hh.below hb; replace i0 := i0.below hb; replace i1 := i1.below hb; replace ch := ch.then_below hb; have c2 := hr.cell k2; have fz := hr.free)
  clear c2 fz l0 l1 l2 l3 l4 l5 hb
  have hhl2 := hh.lt
  replace hm := mem_set (i := o + 2) hm hL.1 hL.2 (.pointer (some ⟨P, 0, none⟩))
  replace hr := hr.set (o + 2) (.pointer (some ⟨P, 0, none⟩))
  replace hh := hh.chg ((Chg.refl [L] w6).setCell (b := L) (o := o + 2) (by simp) (.pointer (some ⟨P, 0, none⟩))) (by simp; omega)
  replace i0 := i0.set (i := o + 2) (fun r h => (hv0 r h).2.2) (.pointer (some ⟨P, 0, none⟩))
  replace i1 := i1.set (i := o + 2) nv1 (.pointer (some ⟨P, 0, none⟩))
  replace hp := hp.chg ((Chg.refl [L] w6).setCell (b := L) (o := o + 2) (by simp) (.pointer (some ⟨P, 0, none⟩))) (by simp; omega)
  replace ch := ch.setCell (b := L) (o := o + 2) (by simp) (.pointer (some ⟨P, 0, none⟩))
  generalize w6.setCell ⟨L, o + 2, none⟩ (.pointer (some ⟨P, 0, none⟩)) = w7 at *
  replace k0 : (cur1.setIfInBounds (o + 2) (.pointer (some ⟨P, 0, none⟩)))[o]? = some v0 := by rw [set_ne (by omega)]; exact k0
  replace k1 : (cur1.setIfInBounds (o + 2) (.pointer (some ⟨P, 0, none⟩)))[o + 1]? = some (.slice nad n (wc - 1)) := by rw [set_ne (by omega)]; exact k1
  replace k2 : (cur1.setIfInBounds (o + 2) (.pointer (some ⟨P, 0, none⟩)))[o + 2]? = some (.pointer (some ⟨P, 0, none⟩)) := set_eq k2
  replace k3 : (cur1.setIfInBounds (o + 2) (.pointer (some ⟨P, 0, none⟩)))[o + 3]? = some (.pointer none) := by rw [set_ne (by omega)]; exact k3
  replace k4 : (cur1.setIfInBounds (o + 2) (.pointer (some ⟨P, 0, none⟩)))[o + 4]? = some (.int .i64 la) := by rw [set_ne (by omega)]; exact k4
  replace ch : Chg [P, M, G, L] w w7 := ch.mono (fun i h => .inl (by simp at h ⊢; omega))
  have hv0P : ∀ r, v0.ownBlock = some r → r ≠ P := fun r h => by have := h0e r h; omega
  have cst := cst0 P
  replace cst := fun wr a b => cst wr (by omega) (by omega) a b
  have nL : L ∉ [P, M, G] := by simp; omega
  have nC : w.heap.size ∉ [P, M, G] := by simp; omega
  have n0 : ∀ r, v0.ownBlock = some r → r ∉ [P, M, G] := fun r h => by have := hv0 r h; have := hv0P r h; simp; omega
  have n1 : ∀ r, v1.ownBlock = some r → r ∉ [P, M, G] := fun r h => by have := hv1 r h; have := i1l r h; simp; omega
  have hPw : w.heap.size ≤ P := by omega
  have hPL : P ≠ L := by omega
  have c0 := hr.cell k0
  have c1 := hr.cell k1
  have c2 := hr.cell k2
  have c3 := hr.cell k3
  have c4 := hr.cell k4
  have fz := hr.free
  go_upto_region 21 with (go_at_call 21; with_reducible refine (cst _ hm hp).mono ?_; rintro e w5 ⟨rfl, hm', hp', ch5⟩)
  clear hm hp
  have hm := hm'
  have hp := hp'
  clear hm' hp'
  replace hr := hr.chg ch5 nL
  replace hh := hh.chg ch5 nC
  replace i0 := i0.chg ch5 n0
  replace i1 := i1.chg ch5 n1
  replace ch := ch.trans (ch5.mono (fun i h => .inl (by simp at h ⊢; omega)))
  clear c0 c1 c2 c3 c4 fz ch5
  replace hm := hm.below (Below.refl w5.heap.size w5).drew
  replace hr := hr.below (Below.refl w5.heap.size w5).drew
  replace hh := hh.below (Below.refl w5.heap.size w5).drew
  replace i0 := i0.below (Below.refl w5.heap.size w5).drew
  replace i1 := i1.below (Below.refl w5.heap.size w5).drew
  replace hp := hp.below (Below.refl w5.heap.size w5).drew
  replace ch := ch.then_below (Below.refl w5.heap.size w5).drew
  go_region_held (fun wr => wr.cell? ⟨w.heap.size, 0, none⟩ = some (.int .i64 (K.S : Nat)) ∧ wr.cell? ⟨w.heap.size, 1, none⟩ = some (.int .i64 K.a) ∧ wr.cell? ⟨w.heap.size, 2, none⟩ = some (.int .i64 (K.C : Nat)) ∧ wr.cell? ⟨w.heap.size, 3, none⟩ = some (.int .i64 (K.D : Nat)) ∧ wr.cell? ⟨w.heap.size, 4, none⟩ = some (.int .i64 K.g) ∧ wr.cell? ⟨w.heap.size, 5, none⟩ = some (.int .i64 K.k)) (with_reducible exact hh.cells) (first
    | (go_at_call 14; with_reducible refine (words_m hK hm tp').mono ?_; rintro e w6 ⟨R, rfl, hw, hX, hb⟩; replace hm := hm.below hb; replace hr := hr.below hb; replace hh := hh.below hb; replace i0 := i0.below hb; replace i1 := i1.below hb; replace hp := hp.below hb; replace ch := ch.then_below hb)
    | (go_at_call 13; with_reducible refine (rlist_m hK hw tp' hX).mono ?_; rintro e w7 ⟨v2, rfl, i2, hv2, hb⟩; have hMl := hm.M_lt; have hGl := hm.G_lt; have hrl := hr.lt; have hpl := hp.lt; have h0l := fun r h => i0.lt (g := r) h; replace hm := hm.below hb; replace hr := hr.below hb; replace hh := hh.below hb; replace i0 := i0.below hb; replace i1 := i1.below hb; replace hp := hp.below hb; replace ch := ch.then_below hb))
  clear hw hX hb
  go_upto_region 24 with (go_at_call 22; refine (Mm.touches_any hm).mono ?_; rintro e w8 ⟨rfl, rfl⟩)
  go_wp2_with (go_at_call 31; with_reducible refine (over_empty hr k2 hp hp1 hp2 hPL i1 i2).mono ?_; rintro e w9 ⟨rfl, hr', ch9⟩)
  go_ret
  exact ⟨rfl, IsMem.chg hm ch9 (by simp; omega) (by simp; omega), P, by rw [HC.out]; exact hr', i0.chg ch9 (fun r h => by have := hv0 r h; simp; omega), ch.trans (ch9.mono (fun i h => .inl (by simp at h ⊢; omega))), hPw⟩
end Go.Proofs.Ytcfallaekedmkaa
