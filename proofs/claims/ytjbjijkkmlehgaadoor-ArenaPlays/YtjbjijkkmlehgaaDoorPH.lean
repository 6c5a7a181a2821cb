/- A maker's step, whatever it is about. -/
import Derived.Test.YtjbjijkkmlehgaaDoorPE
import Derived.Test.YtjbjijkkmlehgaaDoorPF
import Derived.Test.YtjbjijkkmlehgaaDoorPG
import Derived.ProofKit
import Derived.Deep.Slices
namespace Go.Proofs.YtjbjijkkmlehgaaDoor
open Go.RowKit
open Hh (WT wordOf okW Hr)
open Mm (IsWords)
set_option linter.unusedVariables false

/-- Behind a maker's step all holds still. -/
def Next (w w' : World) (K : Cf) (n M G B D L : Nat) (T : Int) (tag : Nat) : Prop :=
  ∃ X' T' tag' F' md' cur' R' A', (0 ≤ T' ∧ T' ≤ T + 1) ∧ tag' ≤ tag + 1 ∧ Ws w w' K n M G B D L X' T' tag' F' md' cur' R' A'
theorem Ws.next {w wr w' : World} {K : Cf} {n M G B D L : Nat} {X : List Nat} {T : Int} {tag : Nat} {F md : List Nat} {cur : Array Value} {R : Nat → Mr} {A : Nat → Ma} (h : Ws w wr K n M G B D L X T tag F md cur R A) {i : Nat} (hi : i < n) {X' : List Nat} {T' : Int} {tag' : Nat} {F' md' : List Nat} {cur' : Array Value} {r' : Mr} {a' : Ma}
    (lf : Lf w wr w' K n M G B D L cur R A i X' T' tag' F' md' cur' r' a') (hT : 0 ≤ T' ∧ T' ≤ T + 1) (htag : tag' ≤ tag + 1) : Next w w' K n M G B D L T tag :=
  ⟨_, _, _, _, _, _, _, _, hT, htag, h.step hi lf⟩
theorem Ws.has_len {w wr : World} {K : Cf} (hK : K.Ok) {n M G B D L : Nat} {X : List Nat} {T : Int} {tag : Nat} {F md : List Nat} {cur : Array Value} {R : Nat → Mr} {A : Nat → Ma} (h : Ws w wr K n M G B D L X T tag F md cur R A) {i : Nat} (hi : i < n) : (R i).has.length ≤ 64 := by
  have ok := h.inv.ok i hi
  have h1 : (R i).has.Nodup := by
    have := ok.nd
    unfold Mr.own at this
    exact (List.nodup_append.1 this).1
  have h2 := nodup_len K.S _ h1 (fun x hx => ok.lt x (List.mem_append_left _ hx))
  have := hK.s64
  omega
/-- What is known of the maker whose turn it is. -/
structure Me (w wr : World) (K : Cf) (n M G B D L : Nat) (X : List Nat) (T : Int) (cur : Array Value) (R : Nat → Mr) (A : Nat → Ma) (i : Nat) (hs : List Nat) (ph : Ph) (hv : Value) (wa : Option Addr) (wk : List Wo) (wc P : Nat) : Prop where
  hR : R i = ⟨hs, ph⟩
  hA : A i = ⟨hv, wa, wk, wc, P⟩
  mo : MaOk wr w.heap.size (i * 10) K cur ⟨hs, ph⟩ ⟨hv, wa, wk, wc, P⟩
  far : ∀ b ∈ hv.ownBlock.toList ++ PhB ph P, b ∉ [M, G, B, D, L] ∧ w.heap.size + 1 ≤ b
  nd : (hv.ownBlock.toList ++ PhB ph P).Nodup
  own : (A i).own (R i) = hv.ownBlock.toList ++ PhB ph P
theorem Ws.me {w wr : World} {K : Cf} {n M G B D L : Nat} {X : List Nat} {T : Int} {tag : Nat} {F md : List Nat} {cur : Array Value} {R : Nat → Mr} {A : Nat → Ma} (h : Ws w wr K n M G B D L X T tag F md cur R A) {i : Nat} (hi : i < n) : ∃ hs ph hv wa wk wc P, Me w wr K n M G B D L X T cur R A i hs ph hv wa wk wc P := by
  have mo := h.ma i hi
  have far := h.far i hi
  have nd := h.nd i hi
  rcases hR : R i with ⟨hs, ph⟩
  rcases hA : A i with ⟨hv, wa, wk, wc, P⟩
  rw [hR, hA] at mo far nd
  exact ⟨hs, ph, hv, wa, wk, wc, P, hR, hA, mo, far, nd, by rw [hA, hR]; rfl⟩
theorem hv_far {w wr : World} {K : Cf} {n M G B D L : Nat} {X : List Nat} {T : Int} {cur : Array Value} {R : Nat → Mr} {A : Nat → Ma} {i : Nat} {hs : List Nat} {ph : Ph} {hv : Value} {wa : Option Addr} {wk : List Wo} {wc P : Nat} (e : Me w wr K n M G B D L X T cur R A i hs ph hv wa wk wc P) {g : Nat} (hg : hv.ownBlock = some g) : g ≠ L ∧ g ≠ D ∧ g ≠ B ∧ g ≠ M ∧ g ≠ G ∧ w.heap.size + 1 ≤ g := by
  have h := e.far g (by simp [hg])
  simp at h
  exact ⟨h.1.2.2.2.2, h.1.2.2.2.1, h.1.2.2.1, h.1.1, h.1.2.1, h.2⟩
theorem Ws.parts {w wr : World} {K : Cf} {n M G B D L : Nat} {X : List Nat} {T : Int} {tag : Nat} {F md : List Nat} {cur : Array Value} {R : Nat → Mr} {A : Nat → Ma} (h : Ws w wr K n M G B D L X T tag F md cur R A) : (B ≠ L ∧ D ≠ L ∧ B ≠ D ∧ M ≠ L ∧ G ≠ L ∧ M ≠ D ∧ G ≠ D ∧ B ≠ M ∧ B ≠ G) ∧ (M < wr.heap.size ∧ G < wr.heap.size ∧ B < wr.heap.size ∧ D < wr.heap.size ∧ L < wr.heap.size) ∧ (w.heap.size + 1 ≤ M ∧ w.heap.size + 1 ≤ G ∧ w.heap.size + 1 ≤ B ∧ w.heap.size + 1 ≤ D ∧ w.heap.size + 1 ≤ L) := by
  have hne := h.ne
  have hhi := h.hi
  have a1 := h.mem.lt
  have a2 := lt_of_block h.wd
  have a3 := h.cnt.lt
  have a4 := h.row.lt
  simp at hne hhi
  omega
theorem chg_in {l l' : List Nat} {a b : World} (h : Chg l a b) (hs : ∀ x ∈ l, x ∈ l') : Chg l' a b := h.mono (fun i hi => .inl (hs i hi))

set_option maxRecDepth 100000 in
set_option maxHeartbeats 8000000 in
/-- It would free, and has nothing. -/
theorem begin_none2 {w : World} {B L o b off wn wc hc : Nat} {ha : Option Addr} {cur : Array Value} {x : Wo} (row : RowM w L cur) (h0 : cur[o]? = some (.slice (some ⟨b, off, none⟩) (wn + 1) wc))
    (z1 : cur[o + 1]?.isSome) (z2 : cur[o + 2]?.isSome) (z3 : cur[o + 3]?.isSome) (z4 : cur[o + 4]?.isSome) (z5 : cur[o + 5]?.isSome) (h6 : cur[o + 6]? = some (.slice ha 0 hc)) (hx : WoAt w b off x) (hb : b ≠ L) (hf : x.free = true) (hcap : wn + 1 ≤ wc) (hcm : wc < 9223372036854775808) :
    Calls Tryd.prog 40 #[.pointer (some ⟨L, o, none⟩), .pointer (some ⟨B, 0, none⟩)] w fun e w' => e = .returned (.bool true) ∧ w' = nowW w L o x (.slice (if wc = 1 then some ⟨b, off, none⟩ else some ⟨b, off + 5, none⟩) wn (wc - 1)) := by
  obtain ⟨u1, e1⟩ := Option.isSome_iff_exists.1 z1
  obtain ⟨u2, e2⟩ := Option.isSome_iff_exists.1 z2
  obtain ⟨u3, e3⟩ := Option.isSome_iff_exists.1 z3
  obtain ⟨u4, e4⟩ := Option.isSome_iff_exists.1 z4
  obtain ⟨u5, e5⟩ := Option.isSome_iff_exists.1 z5
  have q0 := row.cell h0
  have q1 := row.cell e1
  have q2 := row.cell e2
  have q3 := row.cell e3
  have q4 := row.cell e4
  have q5 := row.cell e5
  have q6 := row.cell h6
  have f0 := row.free o
  have f1 := row.free (o + 1)
  have f2 := row.free (o + 2)
  have f3 := row.free (o + 3)
  have f4 := row.free (o + 4)
  have f5 := row.free (o + 5)
  obtain ⟨x0, x1, x2, x3, x4⟩ := hx
  have hn : (0 : Int) < (wn : Int) + 1 := by omega
  have hn1 : ¬ ((wn : Int) + 1 < 1) := by omega
  rw [hf] at x0
  clear row h0 h6 z1 z2 z3 z4 z5 e1 e2 e3 e4 e5
  go_enter Tryd.func40, Tryd.ntmps40
  go_upto_region 3 with fail
  generalize he : (if wc = 1 then some (⟨b, off, none⟩ : Addr) else some ⟨b, off + 5, none⟩) = wa'
  go_wp2
  go_ret
  exact ⟨rfl, by unfold nowW; rw [hf]⟩
/-- Nothing to be freed. -/
theorem turn_none {w wr : World} {K : Cf} {n M G B D L : Nat} {X : List Nat} {T : Int} {tag : Nat} {F md : List Nat} {cur : Array Value} {R : Nat → Mr} {A : Nat → Ma} (h : Ws w wr K n M G B D L X T tag F md cur R A) {i : Nat} (hi : i < n) (ht : 0 ≤ T) {hv : Value} {wa : Option Addr} {x : Wo} {wk : List Wo} {wc P : Nat} (e : Me w wr K n M G B D L X T cur R A i [] .idle hv wa (x :: wk) wc P) (hf : x.free = true) :
    Calls Tryd.prog 11 #[.pointer (some ⟨L, i * 10, none⟩), .pointer (some ⟨B, 0, none⟩)] wr fun r w' => r = .returned (.bool true) ∧ Next w w' K n M G B D L T tag := by
  have mo := e.mo
  obtain ⟨b, off, rfl, hb, hx, hok⟩ := mo.wk.first
  obtain ⟨p1, p2, p3⟩ := h.parts
  have hbw := h.bel.size
  obtain ⟨ad, cp, rfl, _, _⟩ := mo.has.form
  have h6 := mo.c6
  have hwc : wk.length + 1 ≤ wc ∧ wc < 9223372036854775808 := mo.wc
  refine step_begin (wn := wk.length) h.row mo.c0 mo.ph.1 mo.ph.2 ?_
  refine (begin_none2 h.row mo.c0 mo.c1 mo.c2 mo.c3 mo.c4 mo.c5 h6 hx (by omega) hf hwc.1 hwc.2).mono fun r w' ⟨h1, h2⟩ => ⟨h1, ?_⟩
  subst h2
  have hsz : i * 10 + 5 < cur.size := by
    obtain ⟨u, hu⟩ := Option.isSome_iff_exists.1 mo.c5
    exact lt_get hu
  have cn := curN_cells (cur := cur) (o := i * 10) (x := x) (wv := .slice (if wc = 1 then some ⟨b, off, none⟩ else some ⟨b, off + 5, none⟩) wk.length (wc - 1)) hsz
  have row := nowW_row (x := x) (wv := .slice (if wc = 1 then some ⟨b, off, none⟩ else some ⟨b, off + 5, none⟩) wk.length (wc - 1)) (o := i * 10) h.row
  have ch := nowW_chg wr L (i * 10) x (.slice (if wc = 1 then some ⟨b, off, none⟩ else some ⟨b, off + 5, none⟩) wk.length (wc - 1))
  have hsub : ∀ y ∈ [L], y ∈ [M, G, D, L] ++ (A i).own (R i) := fun y hy => by simp at hy; simp [hy]
  have hhv : ∀ g, (Value.slice ad [].length cp).ownBlock = some g → g ∉ [L] := fun g hg => by have := hv_far e hg; simp; omega
  refine h.next hi (F' := F) (r' := ⟨[], .idle⟩) (a' := ⟨.slice ad [].length cp, (if wc = 1 then some ⟨b, off, none⟩ else some ⟨b, off + 5, none⟩), wk, wc - 1, P⟩) ⟨h.mem.chg ch (by simp; omega) (by simp; omega), ?_, row, h.cnt.chg ch (by simp; omega), ⟨cn.c0, ?_, ?_, ?_, ?_, ?_, (cn.hi 6 (by omega)).trans h6, ?_, mo.has.chg ch hhv, (mo.wk.chg ch (by simp; omega) hbw).tail hwc.1, ?_, ?_⟩, cn.same, ?_, ?_, chg_in ch hsub⟩ (by omega) (Nat.le_succ tag)
  · have e2 : upd R i ⟨[], .idle⟩ = R := by funext j; unfold upd; split <;> simp_all [e.hR]
    rw [e2]
    exact h.inv
  · rw [cn.c1]; rfl
  · rw [cn.now.rc]; rfl
  · rw [cn.now.ar]; rfl
  · rw [cn.now.e]; rfl
  · rw [cn.now.wd]; rfl
  · rw [cn.hi 9 (by omega)]; exact mo.c9
  · exact ⟨by show wk.length ≤ wc - 1; omega, by show wc - 1 < 9223372036854775808; omega⟩
  · exact ⟨(cn.hi 7 (by omega)).trans mo.ph.1, (cn.hi 8 (by omega)).trans mo.ph.2⟩
  · intro b hb
    left
    rw [e.own]
    exact hb
  · exact e.nd

/-- A Make begins. -/
theorem turn_make {w wr : World} {K : Cf} (hK : K.Ok) {n M G B D L : Nat} {X : List Nat} {T : Int} {tag : Nat} {F md : List Nat} {cur : Array Value} {R : Nat → Mr} {A : Nat → Ma} (h : Ws w wr K n M G B D L X T tag F md cur R A) {i : Nat} (hi : i < n) (ht : 0 ≤ T) {hs : List Nat} {hv : Value} {wa : Option Addr} {x : Wo} {wk : List Wo} {wc P : Nat} (e : Me w wr K n M G B D L X T cur R A i hs .idle hv wa (x :: wk) wc P) (hf : x.free = false) :
    Calls Tryd.prog 11 #[.pointer (some ⟨L, i * 10, none⟩), .pointer (some ⟨B, 0, none⟩)] wr fun r w' => r = .returned (.bool true) ∧ Next w w' K n M G B D L T tag := by
  have mo := e.mo
  obtain ⟨b, off, rfl, hb, hx, hok⟩ := mo.wk.first
  obtain ⟨p1, p2, p3⟩ := h.parts
  have hbw := h.bel.size
  have hwc : wk.length + 1 ≤ wc ∧ wc < 9223372036854775808 := mo.wc
  have hph : cur[i * 10 + 7]? = some (.pointer none) ∧ cur[i * 10 + 8]? = some (.pointer none) := mo.ph
  obtain ⟨wa', hwa⟩ : ∃ wa', (if wc = 1 then some (⟨b, off, none⟩ : Addr) else some ⟨b, off + 5, none⟩) = wa' := ⟨_, rfl⟩
  refine step_begin (wn := wk.length) h.row mo.c0 hph.1 hph.2 ?_
  refine (begin_make (D := D) (M := M) hK h.row h.wd (by omega) mo.c0 mo.c1 mo.c2 mo.c3 mo.c4 mo.c5 hph.1 hx hok (by omega) hf hwc.1 hwc.2 hwa).mono fun r w' ⟨h1, P', Rb, row, mk, hP, hRb, hRP, ch⟩ => ⟨h1, ?_⟩
  have hsz : i * 10 + 5 < cur.size := by
    obtain ⟨u, hu⟩ := Option.isSome_iff_exists.1 mo.c5
    exact lt_get hu
  have cn := curN_cells (cur := cur) (o := i * 10) (x := x) (wv := .slice wa' wk.length (wc - 1)) hsz
  generalize curN cur (i * 10) x (.slice wa' wk.length (wc - 1)) = c5 at *
  have hsub : ∀ y ∈ [L], y ∈ [M, G, D, L] ++ (A i).own (R i) := fun y hy => by simp at hy; simp [hy]
  have hhv : ∀ g, hv.ownBlock = some g → g ∉ [L] := fun g hg => by have := hv_far e hg; simp; omega
  have h7 : c5[i * 10 + 7]? = some (.pointer none) := (cn.hi 7 (by omega)).trans hph.1
  have wk2 := (mo.wk.chg ch (by simp; omega) hbw).tail (wc := wc) hwc.1
  rw [hwa] at wk2
  have hne : ∀ k, k ≠ 7 → (c5.setIfInBounds (i * 10 + 7) (.pointer (some ⟨P', 0, none⟩)))[i * 10 + k]? = c5[i * 10 + k]? := fun k hk => set_ne (by omega)
  have hmay := may_wo hK x
  have hfit : (mk0 x.kind (x.arity K) x.e Rb K.B [x.wd]).Fit K := mk0_fit hK (by unfold Wo.kind; split <;> omega) hmay.2.1 (by have := hok.e; omega) (fun j => by
    cases j with
    | zero => simpa using hok.wd
    | succ j => simp)
  refine h.next hi (F' := F) (r' := ⟨hs, .mk (mk0 x.kind (x.arity K) x.e Rb K.B [x.wd])⟩) (a' := ⟨hv, wa', wk, wc - 1, P'⟩) ⟨h.mem.chg ch (by simp; omega) (by simp; omega), h.inv.begins hi e.hR hfit rfl (pop0_inv K X tag) rfl, row, h.cnt.chg ch (by simp; omega), ⟨(hne 0 (by omega)).trans cn.c0, ?_, ?_, ?_, ?_, ?_, (hne 6 (by omega)).trans ((cn.hi 6 (by omega)).trans mo.c6), ?_, mo.has.chg ch hhv, wk2, ?_, ?_⟩, ⟨?_, ?_⟩, ?_, ?_, chg_in ch hsub⟩ (by omega) (Nat.le_succ tag)
  · rw [hne 1 (by omega), cn.c1]; rfl
  · rw [hne 2 (by omega), cn.now.rc]; rfl
  · rw [hne 3 (by omega), cn.now.ar]; rfl
  · rw [hne 4 (by omega), cn.now.e]; rfl
  · rw [hne 5 (by omega), cn.now.wd]; rfl
  · rw [hne 9 (by omega), cn.hi 9 (by omega)]; exact mo.c9
  · exact ⟨by show wk.length ≤ wc - 1; omega, by show wc - 1 < 9223372036854775808; omega⟩
  · exact ⟨set_eq h7, (hne 8 (by omega)).trans ((cn.hi 8 (by omega)).trans hph.2), mk, x, ⟨(hne 2 (by omega)).trans cn.now.rc, (hne 3 (by omega)).trans cn.now.ar, (hne 4 (by omega)).trans cn.now.e, (hne 5 (by omega)).trans cn.now.wd⟩, ⟨hok, rfl, rfl, rfl, rfl⟩⟩
  · rw [Array.size_setIfInBounds]; exact cn.same.size
  · intro j hj
    rw [set_ne (by omega)]
    exact cn.same.out j hj
  · intro b hb
    rw [e.own]
    rcases List.mem_append.1 hb with hb | hb
    · exact .inl (List.mem_append_left _ hb)
    · right
      simp [PhB, mk0] at hb
      rcases hb with rfl | rfl
      · exact hP
      · exact hRb
  · have h0 : ∀ g ∈ hv.ownBlock.toList, g < wr.heap.size := fun g hg => mo.own_lt g (List.mem_append_left _ hg)
    have hnd := (List.nodup_append.1 e.nd).1
    refine List.nodup_append.2 ⟨hnd, ?_, fun y hy z hz => ?_⟩
    · show [P', Rb].Nodup
      simp; exact Ne.symm hRP
    · have := h0 y hy
      simp [PhB, mk0] at hz
      rcases hz with rfl | rfl <;> omega
set_option maxHeartbeats 4000000 in
/-- What it has longest goes into limbo, and its Free begins. -/
theorem turn_limbo {w wr : World} {K : Cf} (hK : K.Ok) {n M G B D L : Nat} {X : List Nat} {T : Int} {tag : Nat} {F md : List Nat} {cur : Array Value} {R : Nat → Mr} {A : Nat → Ma} (h : Ws w wr K n M G B D L X T tag F md cur R A) {i : Nat} (hi : i < n) (ht : 0 ≤ T ∧ T < 4611686018427387904) {s : Nat} {hs : List Nat} {hv : Value} {wa : Option Addr} {x : Wo} {wk : List Wo} {wc P : Nat} (e : Me w wr K n M G B D L X T cur R A i (s :: hs) .idle hv wa (x :: wk) wc P) (hf : x.free = true) :
    Calls Tryd.prog 11 #[.pointer (some ⟨L, i * 10, none⟩), .pointer (some ⟨B, 0, none⟩)] wr fun r w' => r = .returned (.bool true) ∧ Next w w' K n M G B D L T tag := by
  have mo := e.mo
  obtain ⟨b, off, rfl, hb, hx, hok⟩ := mo.wk.first
  obtain ⟨p1, p2, p3⟩ := h.parts
  have hbw := h.bel.size
  have hwc : wk.length + 1 ≤ wc ∧ wc < 9223372036854775808 := mo.wc
  have hph : cur[i * 10 + 7]? = some (.pointer none) ∧ cur[i * 10 + 8]? = some (.pointer none) := mo.ph
  have hasI : IsI wr hv (s :: hs) := mo.has
  obtain ⟨ad, hc, rfl, hhc, hform⟩ := hasI.form
  obtain ⟨g, go, rfl⟩ := hform (by simp)
  have hlen := hasI.len
  have hgc : wr.cell? ⟨g, go, none⟩ = some (.int .i64 (s : Nat)) := by
    have := hasI.cell 0 (by simp)
    simpa using this
  have hg := hv_far e (g := g) rfl
  obtain ⟨wa', hwa⟩ : ∃ wa', (if wc = 1 then some (⟨b, off, none⟩ : Addr) else some ⟨b, off + 5, none⟩) = wa' := ⟨_, rfl⟩
  obtain ⟨ha', hha⟩ : ∃ ha', (if hc = 1 then some (⟨g, go, none⟩ : Addr) else some ⟨g, go + 1, none⟩) = ha' := ⟨_, rfl⟩
  have hX : X.length = K.N := h.inv.tp.len
  have hsS0 : s < K.S := (h.inv.ok i hi).lt s (by rw [e.hR]; unfold Mr.own; simp)
  have fok : Fr.Ok ⟨false, false, ⟨s, 0, 0⟩, 0, 0⟩ K := by
    refine ⟨⟨?_, ?_, hsS0⟩, ?_, ?_, ?_⟩ <;> simp
  obtain ⟨hsS, k, m, a, N, hk, hr, hw, hr3, inv⟩ := h.inv.limbo hi e.hR fok
  have c6 : cur[i * 10 + 6]? = some (.slice (some ⟨g, go, none⟩) (hs.length + 1) hc) := mo.c6
  have hhc' : hs.length + 1 ≤ hc := by simpa using hhc
  have hcm : hc < 9223372036854775808 := by have := hlen.2.2; unfold maxLen at this; omega
  refine step_begin (wn := wk.length) h.row mo.c0 hph.1 hph.2 ?_
  refine (begin_free (D := D) hK h.row h.wd h.mem hX ht (by omega) mo.c0 mo.c1 mo.c2 mo.c3 mo.c4 mo.c5 c6 hph.2 mo.c9 hgc (by omega) hhc' hcm hx (by omega) hf hwc.1 hwc.2 hsS hr hw hr3 hwa hha).mono fun r w' ⟨h1, P', row, fr, hP, mem, ch⟩ => ⟨h1, ?_⟩
  have hsz : i * 10 + 9 < cur.size := by
    obtain ⟨u, hu⟩ := Option.isSome_iff_exists.1 mo.c9
    exact lt_get hu
  have cn := curN_cells (cur := cur) (o := i * 10) (x := x) (wv := .slice wa' wk.length (wc - 1)) (by omega)
  unfold curF at row
  generalize curN cur (i * 10) x (.slice wa' wk.length (wc - 1)) = c5 at *
  have hsub : ∀ y ∈ [L, M, G], y ∈ [M, G, D, L] ++ (A i).own (R i) := fun y hy => by simp at hy; rcases hy with h | h | h <;> simp [h]
  have hhv : ∀ g', (Value.slice (some ⟨g, go, none⟩) (s :: hs).length hc).ownBlock = some g' → g' ∉ [L, M, G] := fun g' hg' => by have := hv_far e hg'; simp; omega
  have wk2 := (mo.wk.chg ch (by simp; omega) hbw).tail (wc := wc) hwc.1
  rw [hwa] at wk2
  have has2 := (hasI.chg ch hhv).tails
  rw [hha] at has2
  have s5 : c5.size = cur.size := cn.same.size
  generalize hc8 : ((c5.setIfInBounds (i * 10 + 9) (.int .i64 (s : Nat))).setIfInBounds (i * 10 + 6) (.slice ha' hs.length (hc - 1))).setIfInBounds (i * 10 + 8) (.pointer (some ⟨P', 0, none⟩)) = c8 at *
  have hne : ∀ k, k ≠ 6 → k ≠ 8 → k ≠ 9 → c8[i * 10 + k]? = c5[i * 10 + k]? := fun k h6 h8 h9 => by rw [← hc8, set_ne (by omega), set_ne (by omega), set_ne (by omega)]
  have g6 : c8[i * 10 + 6]? = some (.slice ha' hs.length (hc - 1)) := by rw [← hc8, set_ne (by omega)]; exact get_set (by simp; omega)
  have g8 : c8[i * 10 + 8]? = some (.pointer (some ⟨P', 0, none⟩)) := by rw [← hc8]; exact get_set (by simp; omega)
  have g9 : c8[i * 10 + 9]? = some (.int .i64 (s : Nat)) := by rw [← hc8, set_ne (by omega), set_ne (by omega)]; exact get_set (by omega)
  have hob : (Value.slice ha' hs.length (hc - 1)).ownBlock = some g := by rw [← hha]; split <;> rfl
  refine h.next hi (F' := F) (r' := ⟨hs, .fr ⟨false, false, ⟨s, 0, 0⟩, 0, 0⟩⟩) (a' := ⟨.slice ha' hs.length (hc - 1), wa', wk, wc - 1, P'⟩) ⟨mem, inv, row, h.cnt.chg ch (by simp; omega), ⟨(hne 0 (by omega) (by omega) (by omega)).trans cn.c0, ?_, ?_, ?_, ?_, ?_, g6, ?_, has2, wk2, ?_, ?_⟩, ⟨?_, ?_⟩, ?_, ?_, chg_in ch hsub⟩ (by omega) (Nat.le_succ tag)
  · rw [hne 1 (by omega) (by omega) (by omega), cn.c1]; rfl
  · rw [hne 2 (by omega) (by omega) (by omega), cn.now.rc]; rfl
  · rw [hne 3 (by omega) (by omega) (by omega), cn.now.ar]; rfl
  · rw [hne 4 (by omega) (by omega) (by omega), cn.now.e]; rfl
  · rw [hne 5 (by omega) (by omega) (by omega), cn.now.wd]; rfl
  · rw [g9]; rfl
  · exact ⟨by show wk.length ≤ wc - 1; omega, by show wc - 1 < 9223372036854775808; omega⟩
  · exact ⟨(hne 7 (by omega) (by omega) (by omega)).trans ((cn.hi 7 (by omega)).trans hph.1), g8, fr, g9⟩
  · rw [← hc8]; simp; exact s5
  · intro j hj
    rw [← hc8, set_ne (by omega), set_ne (by omega), set_ne (by omega)]
    exact cn.same.out j hj
  · intro b hb
    rw [e.own]
    rcases List.mem_append.1 hb with hb | hb
    · left
      rw [show ({ hv := Value.slice ha' hs.length (hc - 1), wa := wa', wk := wk, wc := wc - 1, P := P' } : Ma).hv.ownBlock = some g from hob] at hb
      exact List.mem_append_left _ hb
    · right
      simp [PhB] at hb
      subst hb
      exact hP
  · unfold Ma.own
    rw [show ({ hv := Value.slice ha' hs.length (hc - 1), wa := wa', wk := wk, wc := wc - 1, P := P' } : Ma).hv.ownBlock = some g from hob]
    have h0 : g < wr.heap.size := hasI.lt rfl
    show [g, P'].Nodup
    simp
    omega
end Go.Proofs.YtjbjijkkmlehgaaDoor
/- A maker's step, whatever it is about: its machine goes on. -/
namespace Go.Proofs.YtjbjijkkmlehgaaDoor
open Go.RowKit
open Hh (WT wordOf okW Hr)
open Mm (IsWords)
set_option linter.unusedVariables false

set_option maxHeartbeats 8000000 in
/-- A Make under way. -/
theorem turn_mk {w wr : World} {K : Cf} (hK : K.Ok) (hg : K.g ≤ 40) {n M G B D L : Nat} {X : List Nat} {T : Int} {tag : Nat} {F md : List Nat} {cur : Array Value} {R : Nat → Mr} {A : Nat → Ma} (h : Ws w wr K n M G B D L X T tag F md cur R A) {i : Nat} (hi : i < n) (ht : 0 ≤ T ∧ T + 1 < 4611686018427387904) (htag : tag + 1 < 281474976710656) {m : Mk} {hs : List Nat} {hv : Value} {wa : Option Addr} {wk : List Wo} {wc P : Nat} (e : Me w wr K n M G B D L X T cur R A i hs (.mk m) hv wa wk wc P) :
    Calls Tryd.prog 11 #[.pointer (some ⟨L, i * 10, none⟩), .pointer (some ⟨B, 0, none⟩)] wr fun r w' => r = .returned (.bool true) ∧ Next w w' K n M G B D L T tag := by
  have mo := e.mo
  obtain ⟨p1, p2, p3⟩ := h.parts
  have hbw := h.bel.size
  have hph : cur[i * 10 + 7]? = some (.pointer (some ⟨P, 0, none⟩)) ∧ cur[i * 10 + 8]? = some (.pointer none) ∧ MkIn wr K P m ∧ ∃ n, NowAt cur (i * 10) n ∧ Is K m n := mo.ph
  obtain ⟨h7, h8, hmk, nn, hnow, his⟩ := hph
  have fP := e.far P (by simp [PhB])
  have fB := e.far m.bb (by simp [PhB])
  simp at fP fB
  have hnd := e.nd
  have hPB : P ≠ m.bb := by
    have := (List.nodup_append.1 hnd).2.1
    simp [PhB] at this
    exact this
  have hvn : ∀ g, hv.ownBlock = some g → g ≠ P ∧ g ≠ m.bb := fun g hg => by
    have := (List.nodup_append.1 hnd).2.2 g (by simp [hg])
    exact ⟨this P (by simp [PhB]), this m.bb (by simp [PhB])⟩
  have ok := h.inv.ok i hi
  rw [e.hR] at ok
  have mok : MkOk K X tag md m := ok.ph
  have hX : X.length = K.N := h.inv.tp.len
  have hX64 := fun j => h.mem.fits j
  have st := mk_step (wr := wr.drew) hK (h.mem.below (Below.refl _ _).drew) (h.wt.below (Below.refl _ _).drew) hX ht (by omega) (hmk.below (Below.refl _ _).drew) mok.fit.ok mok.pc (by omega) (by omega)
  have hB3 : B ∉ [P, M, G] := by simp; omega
  have hD3 : D ∉ [P, M, G] := by simp; omega
  have hL3 : L ∉ [P, M, G] := by simp; omega
  have hv3 : ∀ g, hv.ownBlock = some g → g ∉ [P, M, G] := fun g hg => by have := hvn g hg; have := hv_far e hg; simp; omega
  have hl3 : ∀ y ∈ [P, M, G], w.heap.size ≤ y := fun y hy => by simp at hy; omega
  have hsub : ∀ y ∈ [P, M, G], y ∈ [M, G, D, L] ++ (A i).own (R i) := fun y hy => by
    rw [e.own]
    simp at hy
    rcases hy with h | h | h <;> simp [h, PhB]
  have c0 : Chg [P, M, G] wr wr.drew := Chg.of_below (Below.refl _ _).drew
  have hne7 : B ≠ L ∧ D ≠ L ∧ B ≠ D ∧ M ≠ L ∧ G ≠ L ∧ M ≠ D ∧ G ≠ D := by omega
  have hvv : ∀ g, hv.ownBlock = some g → g ≠ L ∧ g ≠ D ∧ g ≠ B ∧ g ≠ M ∧ g ≠ G := fun g hg => by have := hv_far e hg; omega
  have hvL : ∀ g, hv.ownBlock = some g → g ∉ [L] := fun g hg => by have := hv_far e hg; simp; omega
  have hlen := h.has_len hK hi
  rw [e.hR] at hlen
  have hlen' : hs.length + 1 ≤ 65536 := Nat.le_trans (Nat.succ_le_succ hlen) (by omega)
  have hl1 : ∀ y ∈ [L, D] ++ hv.ownBlock.toList, w.heap.size ≤ y ∧ y ≠ M ∧ y ≠ G := fun y hy => by
    rcases List.mem_append.1 hy with hy | hy
    · simp at hy; omega
    · have := hv_far e (g := y) (by simpa using hy); omega
  have hsub1 : ∀ y ∈ [L, D] ++ hv.ownBlock.toList, y ∈ [M, G, D, L] ++ (A i).own (R i) := fun y hy => by
    rw [e.own]
    rcases List.mem_append.1 hy with hy | hy
    · simp at hy; rcases hy with h | h <;> simp [h]
    · exact List.mem_append_right _ (List.mem_append_left _ hy)
  have hML : M ∉ [L] ∧ G ∉ [L] ∧ D ∉ [L] := by simp; omega
  have hLw : ∀ y ∈ [L], w.heap.size ≤ y := by simp; omega
  have hT2 : 0 ≤ T ∧ T < 4611686018427387904 := by omega
  have hT3 : 0 ≤ T + 1 ∧ T + 1 ≤ T + 1 := by omega
  have i7 : i * 10 ≤ i * 10 + 7 ∧ i * 10 + 7 ≤ i * 10 + 9 := by omega
  have i6 : i * 10 ≤ i * 10 + 6 ∧ i * 10 + 6 ≤ i * 10 + 9 := by omega
  clear p1 p2 p3 fP fB
  have mb := mkX_body K X m
  have his' : Is K (mkX K X m).2 nn := ⟨his.ok, mb.2.2.1.trans his.kind, mb.2.2.2.1.trans his.ar, mb.2.2.2.2.trans his.e, mb.2.1.trans his.body⟩
  obtain ⟨tag', F', htg, hcase⟩ := h.inv.make hK hg hi e.hR htag hX64
  rcases hcase with ⟨hpc, inv⟩ | ⟨hpc, hfull, hsl, inv⟩ | ⟨s, hpc, hfull, hsl, hsS, inv, hW, hgs, hbd⟩
  · rw [decide_eq_false (show ¬ (mkX K X m).2.pc = 4 by omega)] at st
    refine (step_mk_more (Q := fun w' => MkIn w' K P (mkX K X m).2 ∧ Chg [P, M, G] wr w') h.row h.wd h.mem hT2 (Int.le_refl _) h7 (st.mono fun r w' ⟨a1, a2, a3, a4, a5⟩ => ⟨a1, h.row.chg (c0.trans a5) hL3, h.wd.chg (c0.trans a5) hB3, a2, a3, c0.trans a5⟩)).mono fun r w' ⟨h1, row, wd, mem, mk', ch⟩ => ⟨h1, ?_⟩
    refine h.next hi (F' := F') (md' := md) (r' := ⟨hs, .mk (mkX K X m).2⟩) (a' := ⟨hv, wa, wk, wc, P⟩) ⟨mem, inv, row, h.cnt.chg ch hD3, ⟨mo.c0, mo.c1, mo.c2, mo.c3, mo.c4, mo.c5, mo.c6, mo.c9, mo.has.chg ch hv3, mo.wk.chg ch hl3 hbw, mo.wc, ⟨h7, h8, mk', nn, hnow, his'⟩⟩, Same.refl _ _ _, ?_, ?_, chg_in ch hsub⟩ hT3 htg
    · intro b hb
      left
      rw [e.own]
      have hb' : b ∈ hv.ownBlock.toList ++ [P, (mkX K X m).2.bb] := hb
      rw [mb.1] at hb'
      exact hb'
    · show (hv.ownBlock.toList ++ [P, (mkX K X m).2.bb]).Nodup
      rw [mb.1]
      exact hnd
  · rw [decide_eq_true hpc] at st
    refine (step_mk_done (Q := fun w' => MkIn w' K P (mkX K X m).2 ∧ Chg [P, M, G] wr w') (Q2 := fun w2 => ∃ w1, (RowM w1 L cur ∧ MemX w1 M G (mkX K X m).1 (T + 1) ∧ Chg [P, M, G] wr w1) ∧ w2 = w1.setCell ⟨L, i * 10 + 7, none⟩ (.pointer none)) h.row h.wd h.mem hT2 (Int.le_refl _) h7 (st.mono fun r w' ⟨a1, a2, a3, a4, a5⟩ => ⟨a1, h.row.chg (c0.trans a5) hL3, h.wd.chg (c0.trans a5) hB3, a2, a3, c0.trans a5⟩) (fun w1 row wd mem hq => (made_full row h7 hq.1 hfull hsl).mono fun r w2 ⟨b1, b2⟩ => ⟨b1, w1, ⟨row, mem, hq.2⟩, b2⟩)).mono fun r w' ⟨h1, w1, ⟨row, mem, ch⟩, hw⟩ => ⟨h1, ?_⟩
    subst hw
    have c1 : Chg [L] w1 (w1.setCell ⟨L, i * 10 + 7, none⟩ (.pointer none)) := (Chg.refl [L] w1).setCell (.inl (by simp)) _
    have hsubL : ∀ y ∈ [L], y ∈ [M, G, D, L] ++ (A i).own (R i) := fun y hy => by simp at hy; simp [hy]
    have hne : ∀ k, k ≠ 7 → (cur.setIfInBounds (i * 10 + 7) (.pointer none))[i * 10 + k]? = cur[i * 10 + k]? := fun k hk => set_ne (by omega)
    refine h.next hi (F' := F') (md' := md) (r' := ⟨hs, .idle⟩) (a' := ⟨hv, wa, wk, wc, P⟩) ⟨mem.chg c1 hML.1 hML.2.1, inv, row.set _ _, (h.cnt.chg ch hD3).chg c1 hML.2.2, ⟨(hne 0 (by omega)).trans mo.c0, ?_, ?_, ?_, ?_, ?_, (hne 6 (by omega)).trans mo.c6, ?_, (mo.has.chg ch hv3).chg c1 hvL, (mo.wk.chg ch hl3 hbw).chg c1 hLw (Nat.le_trans hbw ch.size), mo.wc, ⟨set_eq h7, (hne 8 (by omega)).trans h8⟩⟩, Same.set _ _ i7, ?_, ?_, (chg_in ch hsub).trans (chg_in c1 hsubL)⟩ hT3 htg
    · rw [hne 1 (by omega)]; exact mo.c1
    · rw [hne 2 (by omega)]; exact mo.c2
    · rw [hne 3 (by omega)]; exact mo.c3
    · rw [hne 4 (by omega)]; exact mo.c4
    · rw [hne 5 (by omega)]; exact mo.c5
    · rw [hne 9 (by omega)]; exact mo.c9
    · intro b hb
      left
      rw [e.own]
      rcases List.mem_append.1 hb with hb | hb
      · exact List.mem_append_left _ hb
      · simp [PhB] at hb
    · show (hv.ownBlock.toList ++ []).Nodup
      rw [List.append_nil]
      exact (List.nodup_append.1 hnd).1
  · rw [decide_eq_true hpc] at st
    rw [his.kind, his.ar, his.e] at hW
    have hbd' : ∀ j, j < K.B → (mkX K X m).1.getD (K.bd s j) 0 = (fillW K.B [nn.wd]).getD j 0 := fun j hj => by rw [hbd j hj, his.body]
    have hX1 : (mkX K X m).1.length = K.N := by rw [mkX_len]; exact hX
    refine (step_mk_done (Q := fun w' => MkIn w' K P (mkX K X m).2 ∧ Chg [P, M, G] wr w') (Q2 := fun w2 => ∃ w1 v', (MemX w1 M G (mkX K X m).1 (T + 1) ∧ Chg [P, M, G] wr w1) ∧ RowM w2 L ((cur.setIfInBounds (i * 10 + 7) (.pointer none)).setIfInBounds (i * 10 + 6) v') ∧ IsI w2 v' (hs ++ [s]) ∧ (v'.ownBlock = hv.ownBlock ∨ ∃ g, v'.ownBlock = some g ∧ w1.heap.size ≤ g) ∧ IsMd w2 D (md.set s (md.getD s 0 + 1)) ∧ Chg ([L, D] ++ hv.ownBlock.toList) w1 w2) h.row h.wd h.mem hT2 (Int.le_refl _) h7 (st.mono fun r w' ⟨a1, a2, a3, a4, a5⟩ => ⟨a1, h.row.chg (c0.trans a5) hL3, h.wd.chg (c0.trans a5) hB3, a2, a3, c0.trans a5⟩) (fun w1 row wd mem hq => (made_yes hK row wd mem hX1 (h.cnt.chg hq.2 hD3) h.inv.ml hne7 mo.c6 (mo.has.chg hq.2 hv3) hvv hlen' h7 hq.1 hnow his.ok hfull hsl hsS hW hgs hg hbd').mono fun r w2 ⟨b1, v', b2⟩ => ⟨b1, w1, v', ⟨mem, hq.2⟩, b2⟩)).mono fun r w' ⟨h1, w1, v', ⟨mem, ch⟩, row, hI, hob, cnt, c1⟩ => ⟨h1, ?_⟩
    have hne : ∀ k, k ≠ 7 → k ≠ 6 → ((cur.setIfInBounds (i * 10 + 7) (.pointer none)).setIfInBounds (i * 10 + 6) v')[i * 10 + k]? = cur[i * 10 + k]? := fun k hk hk2 => by rw [set_ne (by omega), set_ne (by omega)]
    refine h.next hi (F' := F') (md' := md.set s (md.getD s 0 + 1)) (r' := ⟨hs ++ [s], .idle⟩) (a' := ⟨v', wa, wk, wc, P⟩) ⟨mem.chg c1 (fun hm => (hl1 M hm).2.1 rfl) (fun hm => (hl1 G hm).2.2 rfl), inv, row, cnt, ⟨(hne 0 (by omega) (by omega)).trans mo.c0, ?_, ?_, ?_, ?_, ?_, set_eq (u := hv) ((set_ne (by omega)).trans mo.c6), ?_, hI, (mo.wk.chg ch hl3 hbw).chg c1 (fun y hy => (hl1 y hy).1) (Nat.le_trans hbw ch.size), mo.wc, ⟨(set_ne (by omega)).trans (set_eq h7), (hne 8 (by omega) (by omega)).trans h8⟩⟩, (Same.set _ _ i7).trans (Same.set _ _ i6), ?_, ?_, (chg_in ch hsub).trans (chg_in c1 hsub1)⟩ hT3 htg
    · rw [hne 1 (by omega) (by omega)]; exact mo.c1
    · rw [hne 2 (by omega) (by omega)]; exact mo.c2
    · rw [hne 3 (by omega) (by omega)]; exact mo.c3
    · rw [hne 4 (by omega) (by omega)]; exact mo.c4
    · rw [hne 5 (by omega) (by omega)]; exact mo.c5
    · rw [hne 9 (by omega) (by omega)]; exact mo.c9
    · intro b hb
      rw [e.own]
      rcases List.mem_append.1 hb with hb | hb
      · rcases hob with ho | ⟨g, ho, hgn⟩
        · left
          rw [show ({ hv := v', wa := wa, wk := wk, wc := wc, P := P } : Ma).hv.ownBlock = hv.ownBlock from ho] at hb
          exact List.mem_append_left _ hb
        · right
          rw [show ({ hv := v', wa := wa, wk := wk, wc := wc, P := P } : Ma).hv.ownBlock = some g from ho] at hb
          simp at hb
          have := ch.size
          omega
      · simp [PhB] at hb
    · show (v'.ownBlock.toList ++ []).Nodup
      rw [List.append_nil]
      cases v'.ownBlock <;> simp
set_option maxHeartbeats 8000000 in
/-- A Free under way. -/
theorem turn_fr {w wr : World} {K : Cf} (hK : K.Ok) (hg : K.g ≤ 40) {n M G B D L : Nat} {X : List Nat} {T : Int} {tag : Nat} {F md : List Nat} {cur : Array Value} {R : Nat → Mr} {A : Nat → Ma} (h : Ws w wr K n M G B D L X T tag F md cur R A) {i : Nat} (hi : i < n) (ht : 0 ≤ T ∧ T + 1 < 4611686018427387904) (htag : tag + 1 < 281474976710656) {f : Fr} {hs : List Nat} {hv : Value} {wa : Option Addr} {wk : List Wo} {wc P : Nat} (e : Me w wr K n M G B D L X T cur R A i hs (.fr f) hv wa wk wc P) :
    Calls Tryd.prog 11 #[.pointer (some ⟨L, i * 10, none⟩), .pointer (some ⟨B, 0, none⟩)] wr fun r w' => r = .returned (.bool true) ∧ Next w w' K n M G B D L T tag := by
  have mo := e.mo
  obtain ⟨p1, p2, p3⟩ := h.parts
  have hbw := h.bel.size
  have hph : cur[i * 10 + 7]? = some (.pointer none) ∧ cur[i * 10 + 8]? = some (.pointer (some ⟨P, 0, none⟩)) ∧ FrIn wr K P f ∧ cur[i * 10 + 9]? = some (.int .i64 (f.q.sl : Nat)) := mo.ph
  obtain ⟨h7, h8, hfr, h9⟩ := hph
  have fP := e.far P (by simp [PhB])
  simp at fP
  have hnd := e.nd
  have hvn : ∀ g, hv.ownBlock = some g → g ≠ P := fun g hg => (List.nodup_append.1 hnd).2.2 g (by simp [hg]) P (by simp [PhB])
  have ok := h.inv.ok i hi
  rw [e.hR] at ok
  have fok : FrOk K X tag md f := ok.ph
  have hsS : f.q.sl < K.S := ok.lt _ (by unfold Mr.own Ph.held; simp)
  have hX : X.length = K.N := h.inv.tp.len
  have hX64 := fun j => h.mem.fits j
  have st := fr_step (wr := wr.drew) hK (h.mem.below (Below.refl _ _).drew) (h.wt.below (Below.refl _ _).drew) hX ht (by omega) (hfr.below (Below.refl _ _).drew) fok.ok fok.pc (by omega)
  obtain ⟨tag', F', htg, hcase⟩ := h.inv.frees hK hg hi e.hR htag hX64
  have hB3 : B ∉ [P, M, G] := by simp; omega
  have hD3 : D ∉ [P, M, G] := by simp; omega
  have hL3 : L ∉ [P, M, G] := by simp; omega
  have hv3 : ∀ g, hv.ownBlock = some g → g ∉ [P, M, G] := fun g hg => by have := hvn g hg; have := hv_far e hg; simp; omega
  have hl3 : ∀ y ∈ [P, M, G], w.heap.size ≤ y := fun y hy => by simp at hy; omega
  have hsub : ∀ y ∈ [P, M, G], y ∈ [M, G, D, L] ++ (A i).own (R i) := fun y hy => by
    rw [e.own]
    simp at hy
    rcases hy with h | h | h <;> simp [h, PhB]
  have c0 : Chg [P, M, G] wr wr.drew := Chg.of_below (Below.refl _ _).drew
  have hsl : (frX K X f).2.q.sl = f.q.sl := by
    unfold frX
    split
    · rfl
    · split
      · split <;> rfl
      · split
        · split <;> exact pushX_sl K X f.q
        · rfl
  rcases hcase with ⟨hpc, inv⟩ | ⟨hpc, inv, hd⟩
  · rw [decide_eq_false (show ¬ (frX K X f).2.pc = 3 by omega)] at st
    refine (step_fr_more (Q := fun w' => FrIn w' K P (frX K X f).2 ∧ Chg [P, M, G] wr w') h.row h.wd h.mem (by omega) (Int.le_refl _) h7 h8 (st.mono fun r w' ⟨a1, a2, a3, a4, a5⟩ => ⟨a1, h.row.chg (c0.trans a5) hL3, h.wd.chg (c0.trans a5) hB3, a2, a3, c0.trans a5⟩)).mono fun r w' ⟨h1, row, wd, mem, fr', ch⟩ => ⟨h1, ?_⟩
    refine h.next hi (F' := F') (md' := md) (r' := ⟨hs, .fr (frX K X f).2⟩) (a' := ⟨hv, wa, wk, wc, P⟩) ⟨mem, inv, row, h.cnt.chg ch hD3, ⟨mo.c0, mo.c1, mo.c2, mo.c3, mo.c4, mo.c5, mo.c6, mo.c9, mo.has.chg ch hv3, mo.wk.chg ch hl3 hbw, mo.wc, ⟨h7, h8, fr', by rw [hsl]; exact h9⟩⟩, Same.refl _ _ _, ?_, ?_, chg_in ch hsub⟩ (by omega) htg
    · intro b hb
      left
      rw [e.own]
      exact hb
    · exact hnd
  · rw [decide_eq_true hpc] at st
    have hok : okW ((frX K X f).1.getD (K.hd f.q.sl) 0) = true := by
      rcases hd with ⟨_, _, _, h4, _⟩ | ⟨_, _, _, h4⟩ <;> exact h4
    have hcs : (K.g ≤ (md.getD f.q.sl 0 : Int) ∧ (frX K X f).2.gone = true ∧ (frX K X f).2.back = false ∧ kdW ((frX K X f).1.getD (K.hd f.q.sl) 0) = 4) ∨ ((md.getD f.q.sl 0 : Int) < K.g ∧ (frX K X f).2.gone = false ∧ (frX K X f).2.back = true) := by
      rcases hd with ⟨a1, a2, a3, _, a5⟩ | ⟨a1, a2, a3, _⟩
      · exact .inl ⟨a1, a2, a3, a5⟩
      · exact .inr ⟨a1, a2, a3⟩
    refine (step_fr_done (Q := fun w' => Chg [P, M, G] wr w') hK h.row h.wd h.mem (by omega) (Int.le_refl _) h7 h8 h9 hsS (by rw [frX_len]; exact hX) h.inv.ml hok hcs (st.mono fun r w' ⟨a1, a2, a3, a4, a5⟩ => ⟨a1, h.row.chg (c0.trans a5) hL3, h.wd.chg (c0.trans a5) hB3, a2, a3, h.cnt.chg (c0.trans a5) hD3, c0.trans a5⟩)).mono fun r w' ⟨h1, w1, ⟨row, mem, cnt, ch⟩, w2, b2, hw⟩ => ⟨h1, ?_⟩
    subst hw
    have c1 : Chg [L] w1 (w2.setCell ⟨L, i * 10 + 8, none⟩ (.pointer none)) := (Chg.of_below b2).setCell (.inl (by simp)) _
    have hsub1 : ∀ y ∈ [L], y ∈ [M, G, D, L] ++ (A i).own (R i) := fun y hy => by simp at hy; simp [hy]
    have hne : ∀ k, k ≠ 8 → (cur.setIfInBounds (i * 10 + 8) (.pointer none))[i * 10 + k]? = cur[i * 10 + k]? := fun k hk => set_ne (by omega)
    refine h.next hi (F' := F') (md' := md) (r' := ⟨hs, .idle⟩) (a' := ⟨hv, wa, wk, wc, P⟩) ⟨mem.chg c1 (by simp; omega) (by simp; omega), inv, (row.below b2).set _ _, cnt.chg c1 (by simp; omega), ⟨(hne 0 (by omega)).trans mo.c0, ?_, ?_, ?_, ?_, ?_, (hne 6 (by omega)).trans mo.c6, ?_, (mo.has.chg ch hv3).chg c1 (fun g hg => by have := hv_far e hg; simp; omega), (mo.wk.chg ch hl3 hbw).chg c1 (by simp; omega) (Nat.le_trans hbw ch.size), mo.wc, ⟨(hne 7 (by omega)).trans h7, set_eq h8⟩⟩, Same.set _ _ (by omega), ?_, ?_, (chg_in ch hsub).trans (chg_in c1 hsub1)⟩ (by omega) htg
    · rw [hne 1 (by omega)]; exact mo.c1
    · rw [hne 2 (by omega)]; exact mo.c2
    · rw [hne 3 (by omega)]; exact mo.c3
    · rw [hne 4 (by omega)]; exact mo.c4
    · rw [hne 5 (by omega)]; exact mo.c5
    · rw [hne 9 (by omega)]; exact mo.c9
    · intro b hb
      left
      rw [e.own]
      rcases List.mem_append.1 hb with hb | hb
      · exact List.mem_append_left _ hb
      · simp [PhB] at hb
    · show (hv.ownBlock.toList ++ []).Nodup
      rw [List.append_nil]
      exact (List.nodup_append.1 hnd).1
/-- A maker's step. -/
theorem Ws.turn {w wr : World} {K : Cf} (hK : K.Ok) (hg : K.g ≤ 40) {n M G B D L : Nat} {X : List Nat} {T : Int} {tag : Nat} {F md : List Nat} {cur : Array Value} {R : Nat → Mr} {A : Nat → Ma} (h : Ws w wr K n M G B D L X T tag F md cur R A) {i : Nat} (hi : i < n) (ht : 0 ≤ T ∧ T + 1 < 4611686018427387904) (htag : tag + 1 < 281474976710656) :
    Calls Tryd.prog 11 #[.pointer (some ⟨L, i * 10, none⟩), .pointer (some ⟨B, 0, none⟩)] wr fun r w' => r = .returned (.bool true) ∧ Next w w' K n M G B D L T tag := by
  obtain ⟨hs, ph, hv, wa, wk, wc, P, e⟩ := h.me hi
  cases ph with
  | mk m => exact turn_mk hK hg h hi ht htag e
  | fr f => exact turn_fr hK hg h hi ht htag e
  | idle =>
    cases wk with
    | nil =>
      refine (step_rest (wc := wc) h.row e.mo.c0 e.mo.ph.1 e.mo.ph.2).mono fun r w' ⟨h1, h2⟩ => ⟨h1, ?_⟩
      subst h2
      exact ⟨_, _, _, _, _, _, _, _, ⟨ht.1, by omega⟩, Nat.le_succ tag, h⟩
    | cons x wk =>
      cases hf : x.free with
      | false => exact turn_make hK h hi ht.1 e hf
      | true =>
        cases hs with
        | nil => exact turn_none h hi ht.1 e hf
        | cons s hs => exact turn_limbo hK h hi ⟨ht.1, by omega⟩ e hf
end Go.Proofs.YtjbjijkkmlehgaaDoor
/- The law of whatever is made and freed: how it begins, what it looks at. -/
namespace Go.Proofs.YtjbjijkkmlehgaaDoor
open Go.RowKit
open Hh (WT wordOf okW Hr)
open Mm (IsWords IsMem MS zeroMS)
set_option linter.unusedVariables false

theorem Tryd.info41 : (Tryd.prog.info? 41).map (fun i => (i.zero, i.size, i.bytes)) = some (some (.agg #[.slice none 0 0, .bool false, .bool false, .int .u8 0, .int .u8 0, .int .u64 0, .slice none 0 0, .pointer none, .pointer none, .int .i64 0]), 10, 88) := by kernel_rfl
def cur0 (n : Nat) : Array Value := madeCells #[.slice none 0 0, .bool false, .bool false, .int .u8 0, .int .u8 0, .int .u64 0, .slice none 0 0, .pointer none, .pointer none, .int .i64 0] (n * 10)
theorem cur0_get (n i k : Nat) (hi : i < n) (hk : k < 10) : (cur0 n)[i * 10 + k]? = (#[Value.slice none 0 0, .bool false, .bool false, .int .u8 0, .int .u8 0, .int .u64 0, .slice none 0 0, .pointer none, .pointer none, .int .i64 0] : Array Value)[k]? := by
  have h1 : i * 10 + k < n * 10 := by omega
  have h2 : (i * 10 + k) % 10 = k := by omega
  have key : ∀ p, p < n * 10 → (cur0 n)[p]? = some ((#[Value.slice none 0 0, .bool false, .bool false, .int .u8 0, .int .u8 0, .int .u64 0, .slice none 0 0, .pointer none, .pointer none, .int .i64 0] : Array Value)[p % 10]!) := fun p hp => by
    unfold cur0 madeCells
    rw [Array.getElem?_map, Array.getElem?_eq_getElem (by simpa using hp)]
    simp
  rw [key _ h1, h2]
  have : k = 0 ∨ k = 1 ∨ k = 2 ∨ k = 3 ∨ k = 4 ∨ k = 5 ∨ k = 6 ∨ k = 7 ∨ k = 8 ∨ k = 9 := by omega
  rcases this with rfl | rfl | rfl | rfl | rfl | rfl | rfl | rfl | rfl | rfl <;> rfl
theorem made_row {w : World} {base L n : Nat} (h : w.ownsRow base 41 10 (.slice (some ⟨L, 0, none⟩) n n) n (cur0 n).toList) : RowM w L (cur0 n) := by
  rcases h.2 with ⟨h0, _⟩ | ⟨g', c', cur, h1, h2, h3, h4, h5, h6, h7⟩
  · cases h0
  · simp only [Value.slice.injEq, Option.some.injEq, Addr.mk.injEq] at h1
    obtain ⟨⟨rfl, -⟩, -, rfl⟩ := h1
    have e : cur.toList.take (n * 10) = cur.toList := List.take_of_length_le (by simp [h6])
    rw [e] at h7
    have e3 : cur = cur0 n := Array.ext' h7
    show w.heap[L]? = _
    rw [h3, e3]
theorem md_new (n : Nat) : madeCells #[.int .i64 0] n = (ints (List.replicate n 0)).toArray := by
  apply Array.ext
  · simp [madeCells, ints]
  · intro i h1 h2
    simp [madeCells, ints, Nat.mod_one]
/-- The rows of work that came in. -/
def RowsW (w : World) (wad : Option Addr) (nz : Nat) : Prop := ∀ i, i < nz → ∃ b off za zk zc, wad = some ⟨b, off, none⟩ ∧ b < w.heap.size ∧ w.cell? ⟨b, off + i, none⟩ = some (.slice za (List.length zk) zc) ∧ zk.length ≤ zc ∧ zc < 9223372036854775808 ∧ Wk w w.heap.size za zk
theorem ws_new {w wr : World} {K : Cf} (hK : K.Ok) (hg : 1 ≤ K.g) {n M G B D L : Nat} (mem : MemX wr M G (memK0 K).X 0) (wt : WT wr) (row : RowM wr L (cur0 n)) (wd : WdAt wr K B M D) (cnt : IsMd wr D (List.replicate K.S 0)) (bel : Below w.heap.size w wr) (cfg : IsCfg wr w.heap.size K.S K.a K.C K.D K.g K.k) (hi : ∀ b ∈ [M, G, B, D, L], w.heap.size + 1 ≤ b) (ne : [M, G, B, D, L].Nodup) :
    Ws w wr K n M G B D L (memK0 K).X 0 0 (List.range' 0 K.S) (List.replicate K.S 0) (cur0 n) (fun _ => ⟨[], .idle⟩) (fun _ => ⟨.slice none 0 0, none, [], 0, 0⟩) := by
  refine ⟨mem, wt, Inv.new hK hg n, row, wd, cnt, fun i hi => ?_, fun i _ b hb => ?_, fun i _ => ?_, fun i _ j _ _ b hb => ?_, bel, cfg, hi, ne⟩
  · exact ⟨cur0_get n i 0 hi (by omega), by rw [cur0_get n i 1 hi (by omega)]; rfl, by rw [cur0_get n i 2 hi (by omega)]; rfl, by rw [cur0_get n i 3 hi (by omega)]; rfl, by rw [cur0_get n i 4 hi (by omega)]; rfl, by rw [cur0_get n i 5 hi (by omega)]; rfl, cur0_get n i 6 hi (by omega), by rw [cur0_get n i 9 hi (by omega)]; rfl, IsI.nil _, (fun j hj => by simp at hj), ⟨Nat.le_refl _, by show 0 < 9223372036854775808; omega⟩, ⟨cur0_get n i 7 hi (by omega), cur0_get n i 8 hi (by omega)⟩⟩
  · simp [Ma.own, PhB, Value.ownBlock] at hb
  · simp [Ma.own, PhB, Value.ownBlock]
  · simp [Ma.own, PhB, Value.ownBlock] at hb
/-- A maker is given its work. -/
theorem Ws.give {w wr : World} {K : Cf} {n M G B D L : Nat} {X : List Nat} {T : Int} {tag : Nat} {F md : List Nat} {cur : Array Value} {R : Nat → Mr} {A : Nat → Ma} (h : Ws w wr K n M G B D L X T tag F md cur R A) {i : Nat} (hi : i < n) {za : Option Addr} {zk : List Wo} {zc : Nat} (hk : Wk w w.heap.size za zk) (hc : zk.length ≤ zc ∧ zc < 9223372036854775808) :
    (∃ v, wr.cell? ⟨L, i * 10, none⟩ = some v) ∧ wr.frozen? ⟨L, i * 10, none⟩ = false ∧ ∃ cur' A', Ws w (wr.setCell ⟨L, i * 10, none⟩ (.slice za zk.length zc)) K n M G B D L X T tag F md cur' R A' := by
  obtain ⟨hs, ph, hv, wa, wk, wc, P, e⟩ := h.me hi
  have mo := e.mo
  obtain ⟨p1, p2, p3⟩ := h.parts
  have hbw := h.bel.size
  refine ⟨⟨_, h.row.cell mo.c0⟩, h.row.free _, ?_⟩
  have c1 : Chg [L] wr (wr.setCell ⟨L, i * 10, none⟩ (.slice za zk.length zc)) := (Chg.refl [L] wr).setCell (.inl (by simp)) _
  have hk2 : Wk wr w.heap.size za zk := hk.chg (l := []) (Chg.of_below h.bel) (by simp) (Nat.le_refl _)
  have hsubL : ∀ y ∈ [L], y ∈ [M, G, D, L] ++ (A i).own (R i) := fun y hy => by simp at hy; simp [hy]
  have hown : ∀ b ∈ hv.ownBlock.toList ++ PhB ph P, b ∉ [L] := fun b hb => by have := (e.far b hb).1; simp at this ⊢; omega
  have hne : ∀ k, k ≠ 0 → (cur.setIfInBounds (i * 10) (.slice za zk.length zc))[i * 10 + k]? = cur[i * 10 + k]? := fun k hk => set_ne (by omega)
  have mo2 : MaOk (wr.setCell ⟨L, i * 10, none⟩ (.slice za zk.length zc)) w.heap.size (i * 10) K (cur.setIfInBounds (i * 10) (.slice za zk.length zc)) ⟨hs, ph⟩ ⟨hv, za, zk, zc, P⟩ := by
    refine ⟨set_eq mo.c0, ?_, ?_, ?_, ?_, ?_, (hne 6 (by omega)).trans mo.c6, ?_, mo.has.chg c1 (fun g hg => hown g (by simp [show hv.ownBlock = some g from hg])), hk2.chg c1 (by simp; omega) hbw, hc, ?_⟩
    · rw [hne 1 (by omega)]; exact mo.c1
    · rw [hne 2 (by omega)]; exact mo.c2
    · rw [hne 3 (by omega)]; exact mo.c3
    · rw [hne 4 (by omega)]; exact mo.c4
    · rw [hne 5 (by omega)]; exact mo.c5
    · rw [hne 9 (by omega)]; exact mo.c9
    · have hph : PhAt wr (i * 10) K cur P ph := mo.ph
      have hb : ∀ b ∈ PhB ph P, b ∉ [L] := fun b hb => hown b (List.mem_append_right _ hb)
      cases ph with
      | idle => exact ⟨(hne 7 (by omega)).trans hph.1, (hne 8 (by omega)).trans hph.2⟩
      | mk m =>
        obtain ⟨h1, h2, h3, nn, h4, h5⟩ := hph
        exact ⟨(hne 7 (by omega)).trans h1, (hne 8 (by omega)).trans h2, h3.chg c1 (hb P (by simp [PhB])) (hb m.bb (by simp [PhB])), nn, ⟨(hne 2 (by omega)).trans h4.rc, (hne 3 (by omega)).trans h4.ar, (hne 4 (by omega)).trans h4.e, (hne 5 (by omega)).trans h4.wd⟩, h5⟩
      | fr f =>
        obtain ⟨h1, h2, h3, h4⟩ := hph
        exact ⟨(hne 7 (by omega)).trans h1, (hne 8 (by omega)).trans h2, h3.chg c1 (hb P (by simp [PhB])), (hne 9 (by omega)).trans h4⟩
  have e2 : upd R i ⟨hs, ph⟩ = R := by
    funext j
    unfold upd
    split
    · next hj => rw [hj, e.hR]
    · rfl
  have inv2 : Inv K n X tag F md (upd R i ⟨hs, ph⟩) := by rw [e2]; exact h.inv
  have st := h.step hi (r' := ⟨hs, ph⟩) (a' := ⟨hv, za, zk, zc, P⟩) ⟨h.mem.chg c1 (by simp; omega) (by simp; omega), inv2, h.row.set _ _, h.cnt.chg c1 (by simp; omega), mo2, Same.set _ _ (by omega), fun b hb => .inl (by rw [e.own]; exact hb), e.nd, chg_in c1 hsubL⟩
  rw [e2] at st
  exact ⟨_, _, st⟩
/-- Any slot's header, off the words. -/
theorem unp_all {W : Nat} (hW : W < 18446744073709551616) : ∃ (m : Int) (g : Bool) (a s : Int) (z : Bool), ∀ w, Calls Tryd.prog 15 #[.int .u64 (W : Nat)] w fun e w' => e = .returned (.tuple #[.agg #[.int .i64 (kdW W : Nat), .int .i64 m, .bool g, .int .i64 a, .int .i64 (genW W : Nat), .int .i64 s], .bool z]) ∧ Below w.heap.size w w' := by
  by_cases h : okW W = true
  · obtain ⟨m, g, a, n, s, hn, c⟩ := unp_ok hW h
    subst hn
    exact ⟨m, g, a, s, true, c⟩
  · have e1 : kdW W = 0 := by unfold kdW; rw [if_neg h]
    have e2 : genW W = 0 := by unfold genW; rw [if_neg h]
    rw [e1, e2]
    exact ⟨0, false, 0, 0, false, fun w => Hh.runpack_bad hW (by simpa using h) w⟩
/-- What a maker has, in the heap. -/
theorem Ws.had {w wr : World} {K : Cf} (hK : K.Ok) {n M G B D L : Nat} {X : List Nat} {T : Int} {tag : Nat} {F md : List Nat} {cur : Array Value} {R : Nat → Mr} {A : Nat → Ma} (h : Ws w wr K n M G B D L X T tag F md cur R A) {i : Nat} (hi : i < n) : wr.cell? ⟨L, i * 10 + 6, none⟩ = some (A i).hv ∧ IsI wr (A i).hv (R i).has ∧ (R i).has.length ≤ 65536 := by
  have := h.has_len hK hi
  exact ⟨h.row.cell (h.ma i hi).c6, (h.ma i hi).has, by omega⟩
theorem Ws.meet {w wr : World} {K : Cf} (hK : K.Ok) {n M G B D L : Nat} {X : List Nat} {T : Int} {tag : Nat} {F md : List Nat} {cur : Array Value} {R : Nat → Mr} {A : Nat → Ma} (h : Ws w wr K n M G B D L X T tag F md cur R A) {a b : Nat} (ha : a < n) (hb : b < a) :
    Calls Tryd.prog 12 #[(A a).hv, (A b).hv] wr fun e w' => e = .returned (.bool false) ∧ wr = w' := by
  obtain ⟨_, a2, a3⟩ := h.had hK ha
  obtain ⟨_, b2, b3⟩ := h.had hK (i := b) (by omega)
  exact meet_no a2 b2 a3 b3 (fun x hx hy => h.inv.dis a ha b (by omega) (by omega) x (List.mem_append_left _ hx) (List.mem_append_left _ hy))
theorem Ws.cells {w wr : World} {K : Cf} {n M G B D L : Nat} {X : List Nat} {T : Int} {tag : Nat} {F md : List Nat} {cur : Array Value} {R : Nat → Mr} {A : Nat → Ma} (h : Ws w wr K n M G B D L X T tag F md cur R A) : wr.cell? ⟨w.heap.size, 0, none⟩ = some (.int .i64 (K.S : Nat)) ∧ wr.cell? ⟨w.heap.size, 1, none⟩ = some (.int .i64 K.a) ∧ wr.cell? ⟨w.heap.size, 2, none⟩ = some (.int .i64 (K.C : Nat)) ∧ wr.cell? ⟨w.heap.size, 3, none⟩ = some (.int .i64 (K.D : Nat)) ∧ wr.cell? ⟨w.heap.size, 4, none⟩ = some (.int .i64 K.g) ∧ wr.cell? ⟨w.heap.size, 5, none⟩ = some (.int .i64 K.k) := h.cfg.cells
end Go.Proofs.YtjbjijkkmlehgaaDoor
/- Work and numbers that came in. -/
namespace Go.Proofs.YtjbjijkkmlehgaaDoor
open Go.ChangeShapes Go.WideShapes Go.ChangeAt Go.RowKit Go.Deep
open Hh (WT)
set_option linter.unusedVariables false
namespace Op2
theorem cellsI : Tryd.prog.cellsOf 3 = 1 := by kernel_rfl
theorem cellsB : Tryd.prog.cellsOf 4 = 1 := by kernel_rfl
theorem cellsY : Tryd.prog.cellsOf 5 = 1 := by kernel_rfl
theorem cellsU : Tryd.prog.cellsOf 35 = 1 := by kernel_rfl
theorem cellsW : Tryd.prog.cellsOf 37 = 5 := by kernel_rfl
theorem cellsS : Tryd.prog.cellsOf 34 = 1 := by kernel_rfl
theorem choose_lt' {α : Type} {len : Nat} (h0 : 0 < len) {p : Nat → α → Prop} (h : ∀ i, i < len → ∃ z, p i z) : ∃ Z : Nat → α, ∀ i, i < len → p i (Z i) := by
  obtain ⟨z0, _⟩ := h 0 h0
  exact ⟨fun i => if hi : i < len then Classical.choose (h i hi) else z0, fun i hi => by simp only [hi, dite_true]; exact Classical.choose_spec (h i hi)⟩
theorem add_none (b o i : Nat) : (⟨b, o, none⟩ : Addr).add i = ⟨b, o + i, none⟩ := by simp [Addr.add]
theorem open_ints {H : Type} {enc : TypeId × Value → H} {w : World} {ad : Option Addr} {len cap fuel : Nat} {x : DataW H × List MemPlace}
    (h : DataW.trod enc Tryd.prog w 0 (fun _ => true) true fuel 25 [.slice ad len cap] = some x) : ∃ Z : Nat → Int, (∀ i, i < len → ∃ b off, ad = some ⟨b, off, none⟩ ∧ b < w.heap.size ∧ w.cell? ⟨b, off + i, none⟩ = some (.int .i64 (Z i))) ∧ len ≤ maxLen := by
  rcases open_slice1 Tryd.underlying25 cellsI h with ⟨h0, _⟩ | ⟨a, len', cap', m, n, V, D, Pl, hcs, hb, hl, hm, hmm, hx, hV⟩
  · simp only [List.cons.injEq, Value.slice.injEq, and_true] at h0
    obtain ⟨rfl, rfl, rfl⟩ := h0
    exact ⟨fun _ => 0, fun i hi => by omega, Nat.zero_le _⟩
  · simp only [List.cons.injEq, Value.slice.injEq, and_true] at hcs
    obtain ⟨rfl, rfl, rfl⟩ := hcs
    simp only [if_true] at hmm
    subst hmm
    rcases Nat.eq_zero_or_pos len with h0 | h0
    · exact ⟨fun _ => 0, fun i hi => by omega, by omega⟩
    · obtain ⟨Z, hZ⟩ := choose_lt' h0 (p := fun i (z : Int) => V i = .int .i64 z) fun i hi => by
        obtain ⟨z, e, -, hw⟩ := DataW.trod_int Tryd.underlying3 (hV i (by omega)).2
        simp only [List.cons.injEq, and_true] at e
        exact ⟨z, e⟩
      obtain ⟨b, off, spot⟩ := a
      have hspot : spot = none := by simpa [Addr.add] using World.cell?_spot (hV 0 (by omega)).1
      subst hspot
      refine ⟨Z, fun i hi => ⟨b, off, rfl, ?_, ?_⟩, Nat.le_trans hl hm⟩
      · have hc := (hV i (by omega)).1
        rw [add_none] at hc
        exact Hh.lt_of_cell hc
      · have hc := (hV i (by omega)).1
        rw [add_none, hZ i hi] at hc
        exact hc
set_option maxRecDepth 100000 in
theorem open_work {H : Type} {enc : TypeId × Value → H} {w : World} {v : Value} {fuel : Nat} {x : DataW H × List MemPlace}
    (h : DataW.trod enc Tryd.prog w 0 (fun _ => true) true fuel 34 [v] = some x) : ∃ (z : Option Addr × List Wo × Nat), v = .slice z.1 z.2.1.length z.2.2 ∧ z.2.1.length ≤ z.2.2 ∧ z.2.2 < 9223372036854775808 ∧ Wk w w.heap.size z.1 z.2.1 := by
  rcases open_slice Tryd.underlying34 h with ⟨hcs, _⟩ | ⟨ad, len, cap, m, n, D, Pl, hcs, _, hl, hm, hmm, _, hx⟩
  · simp only [List.cons.injEq, and_true] at hcs
    subst hcs
    exact ⟨(none, [], 0), rfl, Nat.le_refl _, by show 0 < 9223372036854775808; omega, fun i hi => by simp at hi⟩
  · simp only [List.cons.injEq, and_true] at hcs
    subst hcs
    simp only [if_true] at hmm
    subst hmm
    have hm2 : m < 9223372036854775808 := by unfold maxLen at hm; omega
    rcases Nat.eq_zero_or_pos len with h0 | h0
    · subst h0
      exact ⟨(some ad, [], m), rfl, Nat.zero_le _, hm2, fun i hi => by simp at hi⟩
    · have each : ∀ i, i < len → ∃ q : Wo, w.cell? (ad.add (i * 5)) = some (.bool q.free) ∧ w.cell? (ad.add (i * 5 + 1)) = some (.bool q.rc) ∧ w.cell? (ad.add (i * 5 + 2)) = some (.int .u8 (q.ar : Nat)) ∧ w.cell? (ad.add (i * 5 + 3)) = some (.int .u8 (q.e : Nat)) ∧ w.cell? (ad.add (i * 5 + 4)) = some (.int .u64 (q.wd : Nat)) ∧ q.Ok := by
        intro i hi
        obtain ⟨cs', h1, h2⟩ := hx i (by omega)
        rw [cellsW] at h1
        obtain ⟨_, hlen, hcell⟩ := World.cells?_some h1
        obtain ⟨xs, k, hk, hxy, _, hxl, hf⟩ := DataW.trod_struct Tryd.underlying37 h2
        match xs, hxl, cs', hlen with
        | [y0, y1, y2, y3, y4], _, [v0, v1, v2, v3, v4], _ =>
          have g0 := hf 0 _ rfl
          have g1 := hf 1 _ rfl
          have g2 := hf 2 _ rfl
          have g3 := hf 3 _ rfl
          have g4 := hf 4 _ rfl
          simp [cellsB, cellsY, cellsU] at g0 g1 g2 g3 g4
          obtain ⟨z0, f0, _⟩ := DataW.trod_bool Tryd.underlying4 g0
          obtain ⟨z1, f1, _⟩ := DataW.trod_bool Tryd.underlying4 g1
          obtain ⟨z2, f2, _, w2⟩ := DataW.trod_int Tryd.underlying5 g2
          obtain ⟨z3, f3, _, w3⟩ := DataW.trod_int Tryd.underlying5 g3
          obtain ⟨z4, f4, _, w4⟩ := DataW.trod_int Tryd.underlying35 g4
          simp at f0 f1 f2 f3 f4
          subst f0 f1 f2 f3 f4
          have b2 : 0 ≤ z2 ∧ z2 ≤ 255 := by have z := w2; simp only [Lit.wf, Bool.and_eq_true, decide_eq_true_eq] at z; exact z
          have b3 : 0 ≤ z3 ∧ z3 ≤ 255 := by have z := w3; simp only [Lit.wf, Bool.and_eq_true, decide_eq_true_eq] at z; exact z
          obtain ⟨n4, rfl, b4⟩ := Tg.u64_nat w4
          obtain ⟨n2, rfl⟩ : ∃ n2 : Nat, z2 = (n2 : Int) := ⟨z2.toNat, by omega⟩
          obtain ⟨n3, rfl⟩ : ∃ n3 : Nat, z3 = (n3 : Int) := ⟨z3.toNat, by omega⟩
          have e0 := hcell 0 (by omega)
          have e1 := hcell 1 (by omega)
          have e2 := hcell 2 (by omega)
          have e3 := hcell 3 (by omega)
          have e4 := hcell 4 (by omega)
          rw [Go.Deep.add_add] at e0 e1 e2 e3 e4
          exact ⟨⟨z0, z1, n2, n3, n4⟩, by simpa using e0, by simpa using e1, by simpa using e2, by simpa using e3, by simpa using e4, ⟨by show n2 ≤ 255; omega, by show n3 ≤ 255; omega, b4⟩⟩
      obtain ⟨q, hq⟩ := choose_lt' h0 each
      obtain ⟨b, off, spot⟩ := ad
      have hspot : spot = none := by simpa [Addr.add] using World.cell?_spot (hq 0 (by omega)).1
      subst hspot
      have hbl : b < w.heap.size := by
        have := (hq 0 (by omega)).1
        rw [add_none] at this
        exact Hh.lt_of_cell this
      refine ⟨(some ⟨b, off, none⟩, (List.range len).map q, m), by simp, by simpa using hl, hm2, fun i hi => ?_⟩
      have hi' : i < len := by simpa using hi
      obtain ⟨k0, k1, k2, k3, k4, k5⟩ := hq i hi'
      rw [add_none] at k0 k1 k2 k3 k4
      have eg : ((List.range len).map q)[i] = q i := by simp
      refine ⟨b, off, rfl, hbl, ?_, ?_⟩
      · show WoAt w b (off + i * 5) ((List.range len).map q)[i]
        rw [eg]
        exact ⟨k0, by rw [Nat.add_assoc]; exact k1, by rw [Nat.add_assoc]; exact k2, by rw [Nat.add_assoc]; exact k3, by rw [Nat.add_assoc]; exact k4⟩
      · show (((List.range len).map q)[i]).Ok
        rw [eg]
        exact k5
theorem open_works {H : Type} {enc : TypeId × Value → H} {w : World} {ad : Option Addr} {len cap fuel : Nat} {x : DataW H × List MemPlace}
    (h : DataW.trod enc Tryd.prog w 0 (fun _ => true) true fuel 24 [.slice ad len cap] = some x) : RowsW w ad len := by
  rcases open_slice1 Tryd.underlying24 cellsS h with ⟨h0, _⟩ | ⟨a, len', cap', m, n, V, D, Pl, hcs, hb, hl, hm, hmm, hx, hV⟩
  · simp only [List.cons.injEq, Value.slice.injEq, and_true] at h0
    obtain ⟨rfl, rfl, rfl⟩ := h0
    exact fun i hi => by omega
  · simp only [List.cons.injEq, Value.slice.injEq, and_true] at hcs
    obtain ⟨rfl, rfl, rfl⟩ := hcs
    simp only [if_true] at hmm
    subst hmm
    rcases Nat.eq_zero_or_pos len with h0 | h0
    · exact fun i hi => by omega
    · obtain ⟨Z, hZ⟩ := choose_lt' h0 (p := fun i (z : Option Addr × List Wo × Nat) => V i = .slice z.1 z.2.1.length z.2.2 ∧ z.2.1.length ≤ z.2.2 ∧ z.2.2 < 9223372036854775808 ∧ Wk w w.heap.size z.1 z.2.1) fun i hi => open_work (hV i (by omega)).2
      obtain ⟨b, off, spot⟩ := a
      have hspot : spot = none := by simpa [Addr.add] using World.cell?_spot (hV 0 (by omega)).1
      subst hspot
      intro i hi
      obtain ⟨z1, z2, z3, z4⟩ := hZ i hi
      have hc := (hV i (by omega)).1
      rw [add_none] at hc
      refine ⟨b, off, (Z i).1, (Z i).2.1, (Z i).2.2, rfl, Hh.lt_of_cell hc, ?_, z2, z3, z4⟩
      rw [hc, z1]
end Op2
end Go.Proofs.YtjbjijkkmlehgaaDoor
