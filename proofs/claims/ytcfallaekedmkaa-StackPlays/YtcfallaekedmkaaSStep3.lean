/- The contract of the law's own 'step' where a slot begins to be laid. -/
import Derived.Test.YtcfallaekedmkaaSStep2
namespace Go.Proofs.Ytcfallaekedmkaa
open Go.RowKit
open Mm (IsMem MS zeroMS)
set_option linter.unusedVariables false

set_option maxRecDepth 4000 in
set_option maxHeartbeats 8000000 in
theorem stp_newpush_go {w : World} {K : Cf} (hK : K.Ok) {M G L o : Nat} {m : MS} {tag : Nat} {F hs : List Nat} {cur : Array Value} {g0 o0 cz h : Nat} {wb wo n wc : Nat} {la : Int} {p' : QS} {m' : MS} (hm : IsMem w M G m) (tp : Top K m.X tag F) (ht : 0 ≤ m.t ∧ m.t < 2305843009213693952) (hr : IsRow w L cur) (hL : L ≠ M ∧ L ≠ G) (h0 : cur[o]? = some (.slice (some ⟨g0, o0, none⟩) (hs.length + 1) cz)) (h1 : cur[o + 1]? = some (.slice (some ⟨wb, wo, none⟩) (n + 1) wc)) (hwc : n + 1 ≤ wc) (h4 : cur[o + 4]? = some (.int .i64 la)) (i0 : IsI w (.slice (some ⟨g0, o0, none⟩) (hs.length + 1) cz) (h :: hs)) (hg0 : g0 ≠ M ∧ g0 ≠ G ∧ g0 ≠ L) {nad : Option Addr} (HN : Hid ((if wc = 1 then some ⟨wb, wo, none⟩ else some ⟨wb, wo + 1, none⟩) = nad)) {had : Option Addr} (HA : Hid ((if cz = 1 then some ⟨g0, o0, none⟩ else some ⟨g0, o0 + 1, none⟩) = had)) (h2 : cur[o + 2]? = some (.pointer none)) (h3 : cur[o + 3]? = some (.pointer none)) (hz : WB w wb wo false) (hhS : h < K.S)
    (cst0 : ∀ P wr, P ≠ M → P ≠ G → IsMem wr M G m → IsPushS wr P K ⟨h, 0, 0⟩ → Calls Try.prog 24 #[.pointer (some ⟨P, 0, none⟩), .pointer (some ⟨M, 0, none⟩)] wr fun e w' => e = .returned (.bool false) ∧ IsMem w' M G m' ∧ IsPushS w' P K p' ∧ Chg [P, M, G] wr w') (tp' : Top K m'.X tag F) (ht' : m'.t ≤ m.t + 1 ∧ 0 ≤ m'.t) :
    Calls Try.prog 12 #[.pointer (some ⟨L, o, none⟩), .agg K.cs, .pointer (some ⟨M, 0, none⟩)] w fun e w' => e = .returned (.bool true) ∧ IsMem w' M G m' ∧ ∃ P, IsPushS w' P K p' ∧ IsRow w' L ((((cur.setIfInBounds (o + 1) (.slice nad n (wc - 1))).setIfInBounds (o + 4) (.int .i64 (h : Nat))).setIfInBounds o (.slice had hs.length (cz - 1))).setIfInBounds (o + 3) (.pointer (some ⟨P, 0, none⟩))) ∧ IsI w' (.slice had hs.length (cz - 1)) hs ∧ Chg [P, M, G, L] w w' ∧ w.heap.size ≤ P := by
  have hMl := hm.M_lt
  have hGl := hm.G_lt
  have hLl := hr.lt
  have h0e := i0.lt (g := g0) rfl
  have c23 := newPush_K hK h hhS
  have hxs : F.length ≤ 65536 := by have := tp.len_le; have := hK.s64; omega
  have hN := hK.N_b
  have hh := cfg_new w K.S K.a K.C K.D K.g K.k
  have b0 := alloc_below w (.cells #[.int .i64 (K.S : Nat), .int .i64 K.a, .int .i64 (K.C : Nat), .int .i64 (K.D : Nat), .int .i64 K.g, .int .i64 K.k] 23)
  have ch : Chg [M, G, L] w w := Chg.refl _ w
  replace hm := hm.below b0
  replace hr := hr.below b0
  replace i0 := i0.below b0
  replace hz := hz.below b0
  replace ch := ch.then_below b0
  clear b0
  go_enter Try.func12, Try.ntmps12
  go_upto_region 1 with fail
  generalize w.alloc (.cells #[.int .i64 (K.S : Nat), .int .i64 K.a, .int .i64 (K.C : Nat), .int .i64 (K.D : Nat), .int .i64 K.g, .int .i64 K.k] 23) = w1 at *
  have hhl := hh.lt
  replace hm := hm.below (Below.refl w1.heap.size w1).drew
  replace hr := hr.below (Below.refl w1.heap.size w1).drew
  replace i0 := i0.below (Below.refl w1.heap.size w1).drew
  replace hz := hz.below (Below.refl w1.heap.size w1).drew
  replace hh := hh.below (Below.refl w1.heap.size w1).drew
  replace ch := ch.then_below (Below.refl w1.heap.size w1).drew
  go_region_held (fun wr => wr.cell? ⟨w.heap.size, 0, none⟩ = some (.int .i64 (K.S : Nat)) ∧ wr.cell? ⟨w.heap.size, 1, none⟩ = some (.int .i64 K.a) ∧ wr.cell? ⟨w.heap.size, 2, none⟩ = some (.int .i64 (K.C : Nat)) ∧ wr.cell? ⟨w.heap.size, 3, none⟩ = some (.int .i64 (K.D : Nat)) ∧ wr.cell? ⟨w.heap.size, 4, none⟩ = some (.int .i64 K.g) ∧ wr.cell? ⟨w.heap.size, 5, none⟩ = some (.int .i64 K.k)) (with_reducible exact hh.cells) (first
    | (go_at_call 14; with_reducible refine (words_m hK hm tp).mono ?_; rintro e w2 ⟨R, rfl, hw, hX, hb⟩; replace hm := hm.below hb; replace hr := hr.below hb; replace i0 := i0.below hb; replace hz := hz.below hb; replace hh := hh.below hb; replace ch := ch.then_below hb)
    | (go_at_call 13; with_reducible refine (rlist_m hK hw tp hX).mono ?_; rintro e w3 ⟨v1, rfl, i1, hv1, hb⟩; have hsz := hh.lt; replace hm := hm.below hb; replace hr := hr.below hb; replace i0 := i0.below hb; replace hz := hz.below hb; replace hh := hh.below hb; replace ch := ch.then_below hb))
  replace hv1 : ∀ r, v1.ownBlock = some r → w.heap.size < r := fun r h => by have := hv1 r h; omega
  clear hw hX hb
  go_upto_region 3 with (go_at_call 22; refine (Mm.touches_any hm).mono ?_; rintro e w4 ⟨rfl, rfl⟩)
  have nv1 : ∀ r, v1.ownBlock = some r → r ≠ L := fun r h => by have := hv1 r h; omega
  have c0 := hr.cell h0
  have c1 := hr.cell h1
  have c2 := hr.cell h2
  have c3 := hr.cell h3
  have c4 := hr.cell h4
  have fz := hr.free
  have nv0 : ∀ r, (Value.slice (some ⟨g0, o0, none⟩) (hs.length + 1) cz).ownBlock = some r → r ≠ L := fun r h => by simp [Value.ownBlock] at h; omega
  have z0 := hz.2
  go_upto_region 8 with fail
  clear c0 c1 c2 c3 c4 fz z0 hz
  replace hm := mem_set (i := o + 1) hm hL.1 hL.2 (.slice (if wc = 1 then some ⟨wb, wo, none⟩ else some ⟨wb, wo + 1, none⟩) n (wc - 1))
  replace hr := hr.set (o + 1) (.slice (if wc = 1 then some ⟨wb, wo, none⟩ else some ⟨wb, wo + 1, none⟩) n (wc - 1))
  replace hh := hh.chg ((Chg.refl [L] w3).setCell (b := L) (o := o + 1) (by simp) (.slice (if wc = 1 then some ⟨wb, wo, none⟩ else some ⟨wb, wo + 1, none⟩) n (wc - 1))) (by simp; omega)
  replace i0 := i0.set (i := o + 1) nv0 (.slice (if wc = 1 then some ⟨wb, wo, none⟩ else some ⟨wb, wo + 1, none⟩) n (wc - 1))
  replace i1 := i1.set (i := o + 1) nv1 (.slice (if wc = 1 then some ⟨wb, wo, none⟩ else some ⟨wb, wo + 1, none⟩) n (wc - 1))
  replace ch := ch.setCell (b := L) (o := o + 1) (by simp) (.slice (if wc = 1 then some ⟨wb, wo, none⟩ else some ⟨wb, wo + 1, none⟩) n (wc - 1))
  generalize w3.setCell ⟨L, o + 1, none⟩ (.slice (if wc = 1 then some ⟨wb, wo, none⟩ else some ⟨wb, wo + 1, none⟩) n (wc - 1)) = w5 at *
  rw [HN.out] at hr ⊢
  have k0 : (cur.setIfInBounds (o + 1) (.slice nad n (wc - 1)))[o]? = some (.slice (some ⟨g0, o0, none⟩) (hs.length + 1) cz) := by rw [set_ne (by omega)]; exact h0
  have k1 : (cur.setIfInBounds (o + 1) (.slice nad n (wc - 1)))[o + 1]? = some (.slice nad n (wc - 1)) := set_eq h1
  have k2 : (cur.setIfInBounds (o + 1) (.slice nad n (wc - 1)))[o + 2]? = some (.pointer none) := by rw [set_ne (by omega)]; exact h2
  have k3 : (cur.setIfInBounds (o + 1) (.slice nad n (wc - 1)))[o + 3]? = some (.pointer none) := by rw [set_ne (by omega)]; exact h3
  have k4 : (cur.setIfInBounds (o + 1) (.slice nad n (wc - 1)))[o + 4]? = some (.int .i64 la) := by rw [set_ne (by omega)]; exact h4
  obtain ⟨cur1, hc1⟩ : ∃ c, cur.setIfInBounds (o + 1) (.slice nad n (wc - 1)) = c := ⟨_, rfl⟩
  rw [hc1] at hr k0 k1 k2 k3 k4
  have HC : Hid (cur.setIfInBounds (o + 1) (.slice nad n (wc - 1)) = cur1) := hc1
  clear hc1 h0 h1 h2 h3 h4
  have i1l := fun r h => i1.lt (g := r) h
  have hs5 := hh.lt
  have c0 := hr.cell k0
  have c1 := hr.cell k1
  have c2 := hr.cell k2
  have c3 := hr.cell k3
  have c4 := hr.cell k4
  have fz := hr.free
  have zh := i0.cell 0 (by simp)
  rw [show (h :: hs).getD 0 0 = h from rfl, Nat.add_zero] at zh
  go_upto_region 13 with fail
  clear c0 c1 c2 c3 c4 fz zh
  replace hm := mem_set (i := o + 4) hm hL.1 hL.2 (.int .i64 (h : Nat))
  replace hr := hr.set (o + 4) (.int .i64 (h : Nat))
  replace hh := hh.chg ((Chg.refl [L] w5).setCell (b := L) (o := o + 4) (by simp) (.int .i64 (h : Nat))) (by simp; omega)
  replace i0 := i0.set (i := o + 4) nv0 (.int .i64 (h : Nat))
  replace i1 := i1.set (i := o + 4) nv1 (.int .i64 (h : Nat))
  replace ch := ch.setCell (b := L) (o := o + 4) (by simp) (.int .i64 (h : Nat))
  generalize w5.setCell ⟨L, o + 4, none⟩ (.int .i64 (h : Nat)) = w6 at *
  replace k0 : (cur1.setIfInBounds (o + 4) (.int .i64 (h : Nat)))[o]? = some (.slice (some ⟨g0, o0, none⟩) (hs.length + 1) cz) := by rw [set_ne (by omega)]; exact k0
  replace k1 : (cur1.setIfInBounds (o + 4) (.int .i64 (h : Nat)))[o + 1]? = some (.slice nad n (wc - 1)) := by rw [set_ne (by omega)]; exact k1
  replace k2 : (cur1.setIfInBounds (o + 4) (.int .i64 (h : Nat)))[o + 2]? = some (.pointer none) := by rw [set_ne (by omega)]; exact k2
  replace k3 : (cur1.setIfInBounds (o + 4) (.int .i64 (h : Nat)))[o + 3]? = some (.pointer none) := by rw [set_ne (by omega)]; exact k3
  replace k4 : (cur1.setIfInBounds (o + 4) (.int .i64 (h : Nat)))[o + 4]? = some (.int .i64 (h : Nat)) := set_eq k4
  have c0 := hr.cell k0
  have fz := hr.free
  go_upto_region 14 with fail
  clear c0 fz
  replace i0 := i0.tails
  have nv0 : ∀ r, (Value.slice (if cz = 1 then some ⟨g0, o0, none⟩ else some ⟨g0, o0 + 1, none⟩) hs.length (cz - 1)).ownBlock = some r → r ≠ L := fun r h => by split at h <;> simp [Value.ownBlock] at h <;> omega
  replace hm := mem_set (i := o) hm hL.1 hL.2 (.slice (if cz = 1 then some ⟨g0, o0, none⟩ else some ⟨g0, o0 + 1, none⟩) hs.length (cz - 1))
  replace hr := hr.set (o) (.slice (if cz = 1 then some ⟨g0, o0, none⟩ else some ⟨g0, o0 + 1, none⟩) hs.length (cz - 1))
  replace hh := hh.chg ((Chg.refl [L] w6).setCell (b := L) (o := o) (by simp) (.slice (if cz = 1 then some ⟨g0, o0, none⟩ else some ⟨g0, o0 + 1, none⟩) hs.length (cz - 1))) (by simp; omega)
  replace i0 := i0.set (i := o) nv0 (.slice (if cz = 1 then some ⟨g0, o0, none⟩ else some ⟨g0, o0 + 1, none⟩) hs.length (cz - 1))
  replace i1 := i1.set (i := o) nv1 (.slice (if cz = 1 then some ⟨g0, o0, none⟩ else some ⟨g0, o0 + 1, none⟩) hs.length (cz - 1))
  replace ch := ch.setCell (b := L) (o := o) (by simp) (.slice (if cz = 1 then some ⟨g0, o0, none⟩ else some ⟨g0, o0 + 1, none⟩) hs.length (cz - 1))
  generalize w6.setCell ⟨L, o, none⟩ (.slice (if cz = 1 then some ⟨g0, o0, none⟩ else some ⟨g0, o0 + 1, none⟩) hs.length (cz - 1)) = w7 at *
  rw [HA.out] at hr i0 nv0 ⊢
  replace k1 : ((cur1.setIfInBounds (o + 4) (.int .i64 (h : Nat))).setIfInBounds o (.slice had hs.length (cz - 1)))[o + 1]? = some (.slice nad n (wc - 1)) := by rw [set_ne (by omega)]; exact k1
  replace k2 : ((cur1.setIfInBounds (o + 4) (.int .i64 (h : Nat))).setIfInBounds o (.slice had hs.length (cz - 1)))[o + 2]? = some (.pointer none) := by rw [set_ne (by omega)]; exact k2
  replace k3 : ((cur1.setIfInBounds (o + 4) (.int .i64 (h : Nat))).setIfInBounds o (.slice had hs.length (cz - 1)))[o + 3]? = some (.pointer none) := by rw [set_ne (by omega)]; exact k3
  replace k4 : ((cur1.setIfInBounds (o + 4) (.int .i64 (h : Nat))).setIfInBounds o (.slice had hs.length (cz - 1)))[o + 4]? = some (.int .i64 (h : Nat)) := by rw [set_ne (by omega)]; exact k4
  replace k0 : ((cur1.setIfInBounds (o + 4) (.int .i64 (h : Nat))).setIfInBounds o (.slice had hs.length (cz - 1)))[o]? = some (.slice had hs.length (cz - 1)) := set_eq k0
  obtain ⟨cur2, hc2⟩ : ∃ c, (cur1.setIfInBounds (o + 4) (.int .i64 (h : Nat))).setIfInBounds o (.slice had hs.length (cz - 1)) = c := ⟨_, rfl⟩
  rw [hc2] at hr k0 k1 k2 k3 k4
  have HC2 : Hid ((cur1.setIfInBounds (o + 4) (.int .i64 (h : Nat))).setIfInBounds o (.slice had hs.length (cz - 1)) = cur2) := hc2
  clear hc2
  have hs7 := hh.lt
  have i1m := fun r hx => i1.lt (g := r) hx
  replace hm := hm.below (Below.refl w7.heap.size w7).drew
  replace hr := hr.below (Below.refl w7.heap.size w7).drew
  replace hh := hh.below (Below.refl w7.heap.size w7).drew
  replace i0 := i0.below (Below.refl w7.heap.size w7).drew
  replace i1 := i1.below (Below.refl w7.heap.size w7).drew
  replace ch := ch.then_below (Below.refl w7.heap.size w7).drew
  have hkp : ∀ wr (cu : Array Value), IsCfg wr w.heap.size K.S K.a K.C K.D K.g K.k → IsRow wr L cu → cu[o + 4]? = some (.int .i64 (h : Nat)) → (wr.cell? ⟨w.heap.size, 0, none⟩ = some (.int .i64 (K.S : Nat)) ∧ wr.cell? ⟨w.heap.size, 1, none⟩ = some (.int .i64 K.a) ∧ wr.cell? ⟨w.heap.size, 2, none⟩ = some (.int .i64 (K.C : Nat)) ∧ wr.cell? ⟨w.heap.size, 3, none⟩ = some (.int .i64 (K.D : Nat)) ∧ wr.cell? ⟨w.heap.size, 4, none⟩ = some (.int .i64 K.g) ∧ wr.cell? ⟨w.heap.size, 5, none⟩ = some (.int .i64 K.k)) ∧ wr.cell? ⟨L, o + 4, none⟩ = some (.int .i64 (h : Nat)) := fun wr cu a b c => by
    obtain ⟨l0, l1, l2, l3, l4, l5⟩ := a.cells
    exact ⟨⟨l0, l1, l2, l3, l4, l5⟩, b.cell c⟩
  have nCL : w.heap.size ∉ [L] := by simp; omega
  have hne4 : o + 3 ≠ o + 4 := by omega
  have fz := hr.free
  have c3 := hr.cell k3
  go_region_held (fun wr => (wr.cell? ⟨w.heap.size, 0, none⟩ = some (.int .i64 (K.S : Nat)) ∧ wr.cell? ⟨w.heap.size, 1, none⟩ = some (.int .i64 K.a) ∧ wr.cell? ⟨w.heap.size, 2, none⟩ = some (.int .i64 (K.C : Nat)) ∧ wr.cell? ⟨w.heap.size, 3, none⟩ = some (.int .i64 (K.D : Nat)) ∧ wr.cell? ⟨w.heap.size, 4, none⟩ = some (.int .i64 K.g) ∧ wr.cell? ⟨w.heap.size, 5, none⟩ = some (.int .i64 K.k)) ∧ wr.cell? ⟨L, o + 4, none⟩ = some (.int .i64 (h : Nat))) (first | (with_reducible exact hkp _ cur2 hh hr k4) | (with_reducible exact hkp _ (cur2.setIfInBounds (o + 3) (.pointer (some ⟨P, 0, none⟩))) (hh.chg ((Chg.refl [L] _).setCell (b := L) (o := o + 3) (by simp) _) nCL) (hr.set (o + 3) _) ((set_ne hne4).trans k4))) (first
    | (go_at_call 23; with_reducible refine (c23 _).mono ?_; rintro e w8 ⟨P, rfl, hp, hP, hb⟩; replace hm := hm.below hb; replace hr := hr.below hb; replace hh := hh.below hb; replace i0 := i0.below hb; replace i1 := i1.below hb; replace ch := ch.then_below hb; clear fz c3; have fz := hr.free; have c3 := hr.cell k3))
  clear fz c3 hb
  have hhl2 := hh.lt
  replace hP : w7.heap.size ≤ P := hP
  replace hm := mem_set (i := o + 3) hm hL.1 hL.2 (.pointer (some ⟨P, 0, none⟩))
  replace hr := hr.set (o + 3) (.pointer (some ⟨P, 0, none⟩))
  replace hh := hh.chg ((Chg.refl [L] w8).setCell (b := L) (o := o + 3) (by simp) (.pointer (some ⟨P, 0, none⟩))) (by simp; omega)
  replace i0 := i0.set (i := o + 3) nv0 (.pointer (some ⟨P, 0, none⟩))
  replace i1 := i1.set (i := o + 3) nv1 (.pointer (some ⟨P, 0, none⟩))
  replace hp := hp.chg ((Chg.refl [L] w8).setCell (b := L) (o := o + 3) (by simp) (.pointer (some ⟨P, 0, none⟩))) (by simp; omega)
  replace ch := ch.setCell (b := L) (o := o + 3) (by simp) (.pointer (some ⟨P, 0, none⟩))
  generalize w8.setCell ⟨L, o + 3, none⟩ (.pointer (some ⟨P, 0, none⟩)) = w9 at *
  replace k0 : (cur2.setIfInBounds (o + 3) (.pointer (some ⟨P, 0, none⟩)))[o]? = some (.slice had hs.length (cz - 1)) := by rw [set_ne (by omega)]; exact k0
  replace k1 : (cur2.setIfInBounds (o + 3) (.pointer (some ⟨P, 0, none⟩)))[o + 1]? = some (.slice nad n (wc - 1)) := by rw [set_ne (by omega)]; exact k1
  replace k2 : (cur2.setIfInBounds (o + 3) (.pointer (some ⟨P, 0, none⟩)))[o + 2]? = some (.pointer none) := by rw [set_ne (by omega)]; exact k2
  replace k4 : (cur2.setIfInBounds (o + 3) (.pointer (some ⟨P, 0, none⟩)))[o + 4]? = some (.int .i64 (h : Nat)) := by rw [set_ne (by omega)]; exact k4
  replace k3 : (cur2.setIfInBounds (o + 3) (.pointer (some ⟨P, 0, none⟩)))[o + 3]? = some (.pointer (some ⟨P, 0, none⟩)) := set_eq k3
  replace ch : Chg [P, M, G, L] w w9 := ch.mono (fun i h => .inl (by simp at h ⊢; omega))
  have cst := cst0 P
  replace cst := fun wr a b => cst wr (by omega) (by omega) a b
  have nL : L ∉ [P, M, G] := by simp; omega
  have nC : w.heap.size ∉ [P, M, G] := by simp; omega
  have hadg : ∀ r, (Value.slice had hs.length (cz - 1)).ownBlock = some r → r = g0 := fun r hx => by
    rw [← HA.out] at hx
    split at hx <;> simp [Value.ownBlock] at hx <;> omega
  have n0 : ∀ r, (Value.slice had hs.length (cz - 1)).ownBlock = some r → r ∉ [P, M, G] := fun r hx => by have := hadg r hx; simp; omega
  have n1 : ∀ r, v1.ownBlock = some r → r ∉ [P, M, G] := fun r hx => by have := hv1 r hx; have := i1m r hx; simp; omega
  have hPw : w.heap.size ≤ P := by omega
  have c0 := hr.cell k0
  have c1 := hr.cell k1
  have c2 := hr.cell k2
  have c3 := hr.cell k3
  have c4 := hr.cell k4
  have fz := hr.free
  go_upto_region 21 with (go_at_call 24; with_reducible refine (cst _ hm hp).mono ?_; rintro e w5 ⟨rfl, hm', hp', ch5⟩)
  clear hm hp
  have hm := hm'
  have hp := hp'
  clear hm' hp'
  replace hr := hr.chg ch5 nL
  replace hh := hh.chg ch5 nC
  replace i0 := i0.chg ch5 n0
  replace i1 := i1.chg ch5 n1
  replace ch := ch.trans (ch5.mono (fun i h => .inl (by simp at h ⊢; omega)))
  clear c0 c1 c2 c3 c4 fz ch5
  replace hm := hm.below (Below.refl w5.heap.size w5).drew
  replace hr := hr.below (Below.refl w5.heap.size w5).drew
  replace hh := hh.below (Below.refl w5.heap.size w5).drew
  replace i0 := i0.below (Below.refl w5.heap.size w5).drew
  replace i1 := i1.below (Below.refl w5.heap.size w5).drew
  replace hp := hp.below (Below.refl w5.heap.size w5).drew
  replace ch := ch.then_below (Below.refl w5.heap.size w5).drew
  go_region_held (fun wr => wr.cell? ⟨w.heap.size, 0, none⟩ = some (.int .i64 (K.S : Nat)) ∧ wr.cell? ⟨w.heap.size, 1, none⟩ = some (.int .i64 K.a) ∧ wr.cell? ⟨w.heap.size, 2, none⟩ = some (.int .i64 (K.C : Nat)) ∧ wr.cell? ⟨w.heap.size, 3, none⟩ = some (.int .i64 (K.D : Nat)) ∧ wr.cell? ⟨w.heap.size, 4, none⟩ = some (.int .i64 K.g) ∧ wr.cell? ⟨w.heap.size, 5, none⟩ = some (.int .i64 K.k)) (with_reducible exact hh.cells) (first
    | (go_at_call 14; with_reducible refine (words_m hK hm tp').mono ?_; rintro e wa ⟨R, rfl, hw, hX, hb⟩; replace hm := hm.below hb; replace hr := hr.below hb; replace hh := hh.below hb; replace i0 := i0.below hb; replace i1 := i1.below hb; replace hp := hp.below hb; replace ch := ch.then_below hb)
    | (go_at_call 13; with_reducible refine (rlist_m hK hw tp' hX).mono ?_; rintro e wb2 ⟨v2, rfl, i2, hv2, hb⟩; have hMl := hm.M_lt; have hGl := hm.G_lt; have hrl := hr.lt; have hpl := hp.lt; have h0l := fun r h => i0.lt (g := r) h; replace hm := hm.below hb; replace hr := hr.below hb; replace hh := hh.below hb; replace i0 := i0.below hb; replace i1 := i1.below hb; replace hp := hp.below hb; replace ch := ch.then_below hb))
  clear hw hX hb
  go_upto_region 24 with (go_at_call 22; refine (Mm.touches_any hm).mono ?_; rintro e w8 ⟨rfl, rfl⟩)
  go_wp2_with (go_at_call 18; with_reducible refine (same_yes i1 i2 hxs).mono ?_; rintro e wc2 ⟨rfl, hb⟩; replace hm := hm.below hb; replace hr := hr.below hb; replace hp := hp.below hb; replace ch := ch.then_below hb; replace i0 := i0.below hb)
  go_ret
  exact ⟨rfl, hm, P, hp, by rw [HC.out, HC2.out]; exact hr, i0, ch, hPw⟩
end Go.Proofs.Ytcfallaekedmkaa
