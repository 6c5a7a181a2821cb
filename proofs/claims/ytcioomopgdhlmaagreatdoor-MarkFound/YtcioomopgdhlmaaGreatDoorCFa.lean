/- mark's Found: its world, and the closure that finds. -/
import Derived.Test.YtcioomopgdhlmaaGreatDoorCR
import Derived.Test.YtcioomopgdhlmaaGreatDoorCPa
namespace Go.Proofs.YtcioomopgdhlmaaGreatDoor
open Go.RowKit
open Mm (IsMem MS touched Only IsWords)
open Hh (WT okW wordOf IsHd)

/-- A row of bools. -/
def bools (S : Nat) (M : Nat → Bool) : Array Value := ((List.range S).map fun s => Value.bool (M s)).toArray
theorem bools_get {S : Nat} (M : Nat → Bool) {i : Nat} (h : i < S) : (bools S M)[i]? = some (.bool (M i)) := by simp [bools, h]
def setB (M : Nat → Bool) (n : Nat) (x : Bool) : Nat → Bool := fun s => if s = n then x else M s
theorem bools_set {S : Nat} (M : Nat → Bool) (n : Nat) (x : Bool) : (bools S M).setIfInBounds n (.bool x) = bools S (setB M n x) := by
  apply Array.ext
  · simp [bools]
  · intro i h1 h2
    have hi : i < S := by simpa [bools] using h2
    by_cases hn : n = i
    · subst hn
      simp [bools, setB]
    · have : ¬ i = n := fun e => hn e.symm
      simp [bools, setB, hn, this]

/-- What Found knows of the world: its variables' blocks, the row of what is marked, an own list of what waits. -/
structure Fv (w wr : World) (K : Cf) (bc bw be R bm bt b off cap e : Nat) (u v : Value) (W : List Int) (M : Nat → Bool) (vf : Value) (Ff : List Int) : Prop where
  cfg : IsCfg wr bc K.S K.a K.C K.D K.g K.k
  ws : wr.heap[bw]? = some (.cells #[.slice (some ⟨b, off, none⟩) K.N cap] 25 (0, 0))
  ec : wr.heap[be]? = some (.cells #[.int .u64 (e : Nat)] 26 (0, 0))
  row : wr.heap[R]? = some (.cells (bools K.S M) 4 (0, 0))
  ml : wr.heap[bm]? = some (.cells #[.slice (some ⟨R, 0, none⟩) K.S K.S] 29 (0, 0))
  wl : wr.heap[bt]? = some (.cells #[u] 45 (0, 0))
  own : IsZ wr v W
  og : ∀ g, v.ownBlock = some g → w.heap.size ≤ g
  bel : Below w.heap.size w wr
  nR : w.heap.size ≤ R
  nt : w.heap.size ≤ bt
  fd : IsZ wr vf Ff
  fa : ∀ g, vf.ownBlock = some g → v.ownBlock ≠ some g
theorem Fv.below {w wr : World} {K : Cf} {bc bw be R bm bt b off cap e : Nat} {u v vf : Value} {W Ff : List Int} {M : Nat → Bool} (h : Fv w wr K bc bw be R bm bt b off cap e u v W M vf Ff) {w' : World} (k : Below wr.heap.size wr w') : Fv w w' K bc bw be R bm bt b off cap e u v W M vf Ff :=
  ⟨h.cfg.below k, (k.block _ (lt_of_block h.ws)).trans h.ws, (k.block _ (lt_of_block h.ec)).trans h.ec, (k.block _ (lt_of_block h.row)).trans h.row, (k.block _ (lt_of_block h.ml)).trans h.ml, (k.block _ (lt_of_block h.wl)).trans h.wl, h.own.below k, h.og, seq_below h.bel k, h.nR, h.nt, h.fd.below k, h.fa⟩
theorem Fv.grow {w wr : World} {K : Cf} {bc bw be R bm bt b off cap e : Nat} {u v vf : Value} {W Ff : List Int} {M : Nat → Bool} (h : Fv w wr K bc bw be R bm bt b off cap e u v W M vf Ff) {w2 : World} {v' : Value} {W' : List Int} (hI : IsZ w2 v' W') (k : wr.grownBy w2 v.ownBlock) (hp : v'.ownBlock = v.ownBlock ∨ ∃ g, v'.ownBlock = some g ∧ wr.heap.size ≤ g) : Fv w w2 K bc bw be R bm bt b off cap e u v' W' M vf Ff := by
  have kb : ∀ {i : Nat} {c : Array Value} {t : TypeId}, wr.heap[i]? = some (.cells c t (0, 0)) → t ≠ 3 → w2.heap[i]? = some (.cells c t (0, 0)) := fun hi hn => (k.block _ (lt_of_block hi) (fun e => h.own.apart hi hn e.symm)).trans hi
  refine ⟨kb h.cfg (by decide), kb h.ws (by decide), kb h.ec (by decide), kb h.row (by decide), kb h.ml (by decide), kb h.wl (by decide), hI, ?_, below_grown h.bel k (fun x hx => h.og x hx) h.bel.size, h.nR, h.nt, h.fd.kept (fun g hg => k.block g (h.fd.lt hg) (fun e => h.fa g hg e.symm)), ?_⟩
  rotate_left
  · intro g hg e
    rcases hp with hp | ⟨g', hp, hl⟩
    · exact h.fa g hg (hp ▸ e)
    · have := h.fd.lt hg
      rw [hp] at e
      simp at e
      omega
  intro g hg
  rcases hp with hp | ⟨g', hp, hl⟩
  · exact h.og g (hp ▸ hg)
  · obtain rfl : g' = g := by rw [hp] at hg; simpa using hg
    have := h.bel.size
    omega
theorem Fv.put {w wr : World} {K : Cf} {bc bw be R bm bt b off cap e : Nat} {u v vf : Value} {W Ff : List Int} {M : Nat → Bool} (h : Fv w wr K bc bw be R bm bt b off cap e u v W M vf Ff) : Fv w (wr.setCell ⟨bt, 0, none⟩ v) K bc bw be R bm bt b off cap e v v W M vf Ff := by
  have kb : ∀ {i : Nat} {c : Array Value} {t : TypeId}, wr.heap[i]? = some (.cells c t (0, 0)) → t ≠ 45 → (wr.setCell ⟨bt, 0, none⟩ v).heap[i]? = some (.cells c t (0, 0)) := fun {i c t} hi hn => by
    rw [Below.heap_setCell _ _ _ _ (by intro e; have e2 : i = bt := e; subst e2; rw [h.wl] at hi; simp at hi; exact hn hi.2.symm)]
    exact hi
  refine ⟨kb h.cfg (by decide), kb h.ws (by decide), kb h.ec (by decide), kb h.row (by decide), kb h.ml (by decide), ?_, ?_, h.og, h.bel.setCell h.nt _, h.nR, h.nt, ?_, h.fa⟩
  · have := Mm.heap_setCell_at (o := 0) h.wl v
    simpa using this
  · refine h.own.kept fun g hg => Below.heap_setCell _ _ _ _ ?_
    intro e
    have e2 : g = bt := e
    subst e2
    exact h.own.apart h.wl (by decide) hg
  · refine h.fd.kept fun g hg => Below.heap_setCell _ _ _ _ ?_
    intro e
    have e2 : g = bt := e
    subst e2
    exact h.fd.apart h.wl (by decide) hg
theorem Fv.mark {w wr : World} {K : Cf} {bc bw be R bm bt b off cap e : Nat} {u v vf : Value} {W Ff : List Int} {M : Nat → Bool} (h : Fv w wr K bc bw be R bm bt b off cap e u v W M vf Ff) (n : Nat) (x : Bool) : Fv w (wr.setCell ⟨R, n, none⟩ (.bool x)) K bc bw be R bm bt b off cap e u v W (setB M n x) vf Ff := by
  have kb : ∀ {i : Nat} {c : Array Value} {t : TypeId}, wr.heap[i]? = some (.cells c t (0, 0)) → t ≠ 4 → (wr.setCell ⟨R, n, none⟩ (.bool x)).heap[i]? = some (.cells c t (0, 0)) := fun {i c t} hi hn => by
    rw [Below.heap_setCell _ _ _ _ (by intro e; have e2 : i = R := e; subst e2; rw [h.row] at hi; simp at hi; exact hn hi.2.symm)]
    exact hi
  refine ⟨kb h.cfg (by decide), kb h.ws (by decide), kb h.ec (by decide), ?_, kb h.ml (by decide), kb h.wl (by decide), ?_, h.og, h.bel.setCell h.nR _, h.nR, h.nt, ?_, h.fa⟩
  · have := Mm.heap_setCell_at (o := n) h.row (.bool x)
    rw [bools_set] at this
    exact this
  · refine h.own.kept fun g hg => Below.heap_setCell _ _ _ _ ?_
    intro e
    have e2 : g = R := e
    subst e2
    exact h.own.apart h.row (by decide) hg
  · refine h.fd.kept fun g hg => Below.heap_setCell _ _ _ _ ?_
    intro e
    have e2 : g = R := e
    subst e2
    exact h.fd.apart h.row (by decide) hg
theorem Fv.wt {w wr : World} {K : Cf} {bc bw be R bm bt b off cap e : Nat} {u v vf : Value} {W Ff : List Int} {M : Nat → Bool} (h : Fv w wr K bc bw be R bm bt b off cap e u v W M vf Ff) (hw : WT w) : WT wr := hw.below h.bel
theorem Fv.l {w wr : World} {K : Cf} {bc bw be R bm bt b off cap e : Nat} {u v vf : Value} {W Ff : List Int} {M : Nat → Bool} (h : Fv w wr K bc bw be R bm bt b off cap e u v W M vf Ff) : wr.cell? ⟨bt, 0, none⟩ = some u ∧ wr.frozen? ⟨bt, 0, none⟩ = false := ⟨by simp [World.cell?, h.wl], by simp [World.frozen?, h.wl]⟩
theorem Fv.m {w wr : World} {K : Cf} {bc bw be R bm bt b off cap e : Nat} {u v vf : Value} {W Ff : List Int} {M : Nat → Bool} (h : Fv w wr K bc bw be R bm bt b off cap e u v W M vf Ff) : wr.cell? ⟨bm, 0, none⟩ = some (.slice (some ⟨R, 0, none⟩) K.S K.S) := by simp [World.cell?, h.ml]
theorem Fv.b {w wr : World} {K : Cf} {bc bw be R bm bt b off cap e : Nat} {u v vf : Value} {W Ff : List Int} {M : Nat → Bool} (h : Fv w wr K bc bw be R bm bt b off cap e u v W M vf Ff) {n : Nat} (hn : n < K.S) {x : Bool} (hx : M n = x) : wr.cell? ⟨R, n, none⟩ = some (.bool x) ∧ wr.frozen? ⟨R, n, none⟩ = false := ⟨by simp only [World.cell?, h.row]; rw [← hx]; exact bools_get M hn, by simp [World.frozen?, h.row]⟩
theorem Fv.rd {w wr : World} {K : Cf} {bc bw be R bm bt b off cap e : Nat} {u v vf : Value} {F Ff : List Int} {M : Nat → Bool} (h : Fv w wr K bc bw be R bm bt b off cap e u v F M vf Ff) {L W : Nat} (hR : ∀ w', Below w.heap.size w w' → w'.cell? ⟨b, off + L, none⟩ = some (.int .u64 (W : Nat))) : wr.cell? ⟨bc, 0, none⟩ = some (.int .i64 (K.S : Nat)) ∧ wr.cell? ⟨bc, 1, none⟩ = some (.int .i64 K.a) ∧ wr.cell? ⟨bc, 2, none⟩ = some (.int .i64 (K.C : Nat)) ∧ wr.cell? ⟨bc, 3, none⟩ = some (.int .i64 (K.D : Nat)) ∧ wr.cell? ⟨bc, 4, none⟩ = some (.int .i64 K.g) ∧ wr.cell? ⟨bc, 5, none⟩ = some (.int .i64 K.k) ∧ wr.cell? ⟨bw, 0, none⟩ = some (.slice (some ⟨b, off, none⟩) K.N cap) ∧ wr.cell? ⟨be, 0, none⟩ = some (.int .u64 (e : Nat)) ∧ wr.cell? ⟨b, off + L, none⟩ = some (.int .u64 (W : Nat)) := by
  obtain ⟨h0, h1, h2, h3, h4, h5⟩ := h.cfg.cells
  exact ⟨h0, h1, h2, h3, h4, h5, by simp [World.cell?, h.ws], by simp [World.cell?, h.ec], hR wr h.bel⟩

/-- What is done with a slot that is found: what waits, what is marked. -/
def fnX (K : Cf) (X : List Nat) (e : Nat) (x : Int) (q : List Int × (Nat → Bool)) : List Int × (Nat → Bool) :=
  if x = -1 then q else if q.2 x.toNat = true then q else if canS (X.getD (K.hd x.toNat) 0) e = true then (q.1 ++ [x], upB q.2 x.toNat) else q

set_option maxRecDepth 100000 in
set_option maxHeartbeats 8000000 in
theorem find1 {w w0 : World} (hw : WT w) {K : Cf} (hK : K.Ok) {bc bw be R bm bt b off cap e : Nat} {X : List Nat} {v vf : Value} {Q Ff : List Int} {M : Nat → Bool} (is : Fv w w0 K bc bw be R bm bt b off cap e v v Q M vf Ff) (hR : RdW w b off X) (hX : X.length = K.N) (hlt : ∀ i, X.getD i 0 < 18446744073709551616) (he : e < 18446744073709551616) {x : Int} (hx : -1 ≤ x ∧ x < K.S) (hF : Q.length < 900000) :
    Calls Tryz.prog 22 #[.int .i64 x, .pointer (some ⟨bm, 0, none⟩), .pointer (some ⟨bw, 0, none⟩), .pointer (some ⟨bc, 0, none⟩), .pointer (some ⟨be, 0, none⟩), .pointer (some ⟨bt, 0, none⟩)] w0 fun r w' => r = .returned (.tuple #[]) ∧ ∃ v', Fv w w' K bc bw be R bm bt b off cap e v' v' (fnX K X e x (Q, M)).1 (fnX K X e x (Q, M)).2 vf Ff := by
  by_cases h1 : x = -1
  · subst h1
    have ef : fnX K X e (-1) (Q, M) = (Q, M) := if_pos rfl
    rw [ef]
    clear ef hR hX hlt hK hF hx he
    replace hw := hid1 hw
    replace is := hid1 is
    go_enter Tryz.func22, Tryz.ntmps22
    go_wp2
    (try simp only [Exit.inBlock, Exit.then])
    exact bodyPost_ret (results_none rfl _ _ _) rfl ⟨rfl, _, is.out⟩
  · obtain ⟨n, rfl⟩ : ∃ n : Nat, x = (n : Int) := ⟨x.toNat, by omega⟩
    have hn : n < K.S := by omega
    have hn1 : (n : Int) < (K.S : Int) := by omega
    have hn0 : (0 : Int) ≤ (n : Int) := by omega
    have h1' : ((n : Int) == -1) = false := by simp
    have e0 : fnX K X e (n : Int) (Q, M) = if M n = true then (Q, M) else if canS (X.getD (K.hd n) 0) e = true then (Q ++ [(n : Int)], upB M n) else (Q, M) := by
      unfold fnX
      rw [if_neg h1]
      rfl
    rw [e0]
    clear e0 h1 hx
    cases hM : M n with
    | true =>
      have ef : (if true = true then (Q, M) else if canS (X.getD (K.hd n) 0) e = true then (Q ++ [(n : Int)], upB M n) else (Q, M)) = (Q, M) := if_pos rfl
      rw [ef]
      clear ef
      have m1 := is.m
      have m2 := (is.b hn hM).1
      clear hR hX hlt hK hF he hM hn
      replace hw := hid1 hw
      replace is := hid1 is
      go_enter Tryz.func22, Tryz.ntmps22
      go_wp2
      (try simp only [Exit.inBlock, Exit.then])
      exact bodyPost_ret (results_none rfl _ _ _) rfl ⟨rfl, _, is.out⟩
    | false =>
      rw [if_neg (by decide)]
      have hL := K.hd_lt hn
      have hN := hK.N_b
      have hW := hlt (K.hd n)
      have hRL : ∀ w', Below w.heap.size w w' → w'.cell? ⟨b, off + K.hd n, none⟩ = some (.int .u64 (X.getD (K.hd n) 0 : Nat)) := fun w' h => (hR.below h).2 (K.hd n) (by omega)
      have c43 := fun w => header_at hK hn rfl w
      have c53 := fun w hw => shaded_any hW e he w hw
      have HC := hid1 (fun (wq : World) (u v : Value) (F : List Int) (M : Nat → Bool) (h : Fv w wq K bc bw be R bm bt b off cap e u v F M vf Ff) => h.rd hRL)
      have hL1 : ((K.hd n : Nat) : Int) < (K.N : Int) := by omega
      have hL0 : (0 : Int) ≤ ((K.hd n : Nat) : Int) := by omega
      replace hw := hid1 hw
      clear hR hlt hK hW hRL hX he
      generalize K.hd n = L at *
      generalize X.getD L 0 = W at *
      generalize (if canS W e then shN W e else W) = Vs at *
      unfold Cf.cs at *
      have m1 := is.m
      have m2 := (is.b hn hM).1
      cases hc : canS W e with
      | false =>
        simp only [hc] at c53
        have ef : (if false = true then (Q ++ [(n : Int)], upB M n) else (Q, M)) = (Q, M) := if_neg (by decide)
        rw [ef]
        clear ef hc
        go_enter Tryz.func22, Tryz.ntmps22
        go_upto_region 1 with fail
        clear m1 m2
        replace is := is.below (Below.refl _ _).drew
        have hS0 := HC.out _ _ _ _ _ is
        refine wp_region_held_drew (S := fun wr => wr.cell? ⟨bc, 0, none⟩ = some (.int .i64 (K.S : Nat)) ∧ wr.cell? ⟨bc, 1, none⟩ = some (.int .i64 K.a) ∧ wr.cell? ⟨bc, 2, none⟩ = some (.int .i64 (K.C : Nat)) ∧ wr.cell? ⟨bc, 3, none⟩ = some (.int .i64 (K.D : Nat)) ∧ wr.cell? ⟨bc, 4, none⟩ = some (.int .i64 K.g) ∧ wr.cell? ⟨bc, 5, none⟩ = some (.int .i64 K.k) ∧ wr.cell? ⟨bw, 0, none⟩ = some (.slice (some ⟨b, off, none⟩) K.N cap) ∧ wr.cell? ⟨be, 0, none⟩ = some (.int .u64 (e : Nat)) ∧ wr.cell? ⟨b, off + L, none⟩ = some (.int .u64 (W : Nat))) (by kernel_rfl) hS0 (fun hS1 => ?_)
        clear hS0
        generalize w0.drew = w0 at *
        refine wpAnyH_take (i := 0) (oi := { dst := some 18, op := Go.Op.load 25 (Go.Operand.tmp 2), type := 25, pos := "found.go:80", after := #[], guard := none }) (v := .slice (some ⟨b, off, none⟩) K.N cap) rfl (by kernel_rfl) (by kernel_rfl) (by kernel_rfl) (fun _ _ _ h => h) (Or.inl ⟨by rfl, fun w hSw => by (try dsimp only at hSw); go_simp⟩) hS1 ?_
        simp only [Act.put, List.setIfInBounds_toArray, List.set_cons_zero, List.set_cons_succ]
        refine wpAnyH_take (i := 1) (oi := { dst := some 19, op := Go.Op.load 23 (Go.Operand.tmp 3), type := 23, pos := "found.go:80", after := #[], guard := none }) (v := .agg #[.int .i64 (K.S : Nat), .int .i64 K.a, .int .i64 (K.C : Nat), .int .i64 (K.D : Nat), .int .i64 K.g, .int .i64 K.k]) rfl (by kernel_rfl) (by kernel_rfl) (by kernel_rfl) (fun _ _ _ h => h) (Or.inl ⟨by rfl, fun w hSw => by (try dsimp only at hSw); go_simp⟩) hS1 ?_
        simp only [Act.put, List.setIfInBounds_toArray, List.set_cons_zero, List.set_cons_succ]
        refine wpAnyH_take (i := 2) (oi := { dst := some 20, op := Go.Op.move (Go.Operand.tmp 0), type := 3, pos := "found.go:80", after := #[], guard := none }) (v := .int .i64 (n : Nat)) rfl (by kernel_rfl) (by kernel_rfl) (by kernel_rfl) (fun _ _ _ h => h) (Or.inl ⟨by rfl, fun w hSw => by (try dsimp only at hSw); go_simp⟩) hS1 ?_
        simp only [Act.put, List.setIfInBounds_toArray, List.set_cons_zero, List.set_cons_succ]
        refine wpAnyH_take (i := 6) (oi := { dst := some 24, op := Go.Op.load 26 (Go.Operand.tmp 4), type := 26, pos := "found.go:80", after := #[], guard := none }) (v := .int .u64 (e : Nat)) rfl (by kernel_rfl) (by kernel_rfl) (by kernel_rfl) (fun _ _ _ h => h) (Or.inl ⟨by rfl, fun w hSw => by (try dsimp only at hSw); go_simp⟩) hS1 ?_
        simp only [Act.put, List.setIfInBounds_toArray, List.set_cons_zero, List.set_cons_succ]
        refine wpAnyH_ready (rs := [3]) (by kernel_rfl) (by simp) (AllReadyH.cons (o := { dst := some 21, op := Go.Op.call { callee := Go.Callee.value (Go.Operand.func 19), args := #[Go.Operand.tmp 19, Go.Operand.tmp 20], argTypes := #[23, 3] }, type := 3, pos := "found.go:80", after := #[{ on := 1, ground := Go.Ground.data }, { on := 2, ground := Go.Ground.data }], guard := none }) rfl (fun K hK => ?_) AllReadyH.nil)
        go_simp
        go_at_call 19
        with_reducible refine (c43 _).mono ?_
        rintro r w1 ⟨rfl, b1⟩
        (try simp only [])
        replace is := is.below b1
        clear b1
        refine hK.out _ _ (HC.out _ _ _ _ _ is) (fun hS1 => ?_)
        (try simp only [Act.put, List.setIfInBounds_toArray, List.set_cons_zero, List.set_cons_succ])
        clear hK K
        refine wpAnyH_take (i := 4) (oi := { dst := some 22, op := Go.Op.indexAddr 25 (Go.Operand.tmp 18) (Go.Operand.tmp 21), type := 0, pos := "found.go:80", after := #[{ on := 0, ground := Go.Ground.data }, { on := 3, ground := Go.Ground.data }], guard := none }) (v := .pointer (some ⟨b, off + L, none⟩)) rfl (by kernel_rfl) (by kernel_rfl) (by kernel_rfl) (fun _ _ _ h => h) (Or.inl ⟨by rfl, fun w hSw => by (try dsimp only at hSw); go_simp⟩) hS1 ?_
        simp only [Act.put, List.setIfInBounds_toArray, List.set_cons_zero, List.set_cons_succ]
        refine wpAnyH_take (i := 5) (oi := { dst := some 23, op := Go.Op.load 26 (Go.Operand.tmp 22), type := 26, pos := "found.go:80", after := #[{ on := 4, ground := Go.Ground.data }], guard := none }) (v := .int .u64 (W : Nat)) rfl (by kernel_rfl) (by kernel_rfl) (by kernel_rfl) (fun _ _ _ h => h) (Or.inl ⟨by rfl, fun w hSw => by (try dsimp only at hSw); go_simp⟩) hS1 ?_
        simp only [Act.put, List.setIfInBounds_toArray, List.set_cons_zero, List.set_cons_succ]
        refine wpAnyH_ready (rs := [7]) (by kernel_rfl) (by simp) (AllReadyH.cons (o := { dst := some 25, op := Go.Op.call { callee := Go.Callee.value (Go.Operand.func 23), args := #[Go.Operand.tmp 23, Go.Operand.tmp 24], argTypes := #[26, 26] }, type := 48, pos := "found.go:80", after := #[{ on := 5, ground := Go.Ground.data }, { on := 6, ground := Go.Ground.data }, { on := 3, ground := Go.Ground.chain }], guard := none }) rfl (fun K hK => ?_) AllReadyH.nil)
        go_simp
        go_at_call 23
        with_reducible refine (c53 _ (is.wt hw.out)).mono ?_
        rintro r w2 ⟨rfl, b1⟩
        (try simp only [])
        replace is := is.below b1
        clear b1
        refine hK.out _ _ (HC.out _ _ _ _ _ is) (fun hS1 => ?_)
        (try simp only [Act.put, List.setIfInBounds_toArray, List.set_cons_zero, List.set_cons_succ])
        clear hK K
        refine wpAnyH_take (i := 8) (oi := { dst := some 17, op := Go.Op.move (Go.Operand.tmp 25), type := 48, pos := "found.go:80", after := #[{ on := 7, ground := Go.Ground.data }], guard := none }) (v := .tuple #[.int .u64 (Vs : Nat), .bool false]) rfl (by kernel_rfl) (by kernel_rfl) (by kernel_rfl) (fun _ _ _ h => h) (Or.inl ⟨by rfl, fun w hSw => by (try dsimp only at hSw); go_simp⟩) hS1 ?_
        simp only [Act.put, List.setIfInBounds_toArray, List.set_cons_zero, List.set_cons_succ]
        refine wpAnyH_take (i := 9) (oi := { dst := some 26, op := Go.Op.extract (Go.Operand.tmp 17) 0, type := 26, pos := "found.go:80", after := #[{ on := 8, ground := Go.Ground.data }], guard := none }) (v := .int .u64 (Vs : Nat)) rfl (by kernel_rfl) (by kernel_rfl) (by kernel_rfl) (fun _ _ _ h => h) (Or.inl ⟨by rfl, fun w hSw => by (try dsimp only at hSw); go_simp⟩) hS1 ?_
        simp only [Act.put, List.setIfInBounds_toArray, List.set_cons_zero, List.set_cons_succ]
        refine wpAnyH_take (i := 10) (oi := { dst := some 27, op := Go.Op.extract (Go.Operand.tmp 17) 1, type := 4, pos := "found.go:80", after := #[{ on := 8, ground := Go.Ground.data }, { on := 11, ground := Go.Ground.gcOnly Go.Departure.lateStores }], guard := none }) (v := .bool false) rfl (by kernel_rfl) (by kernel_rfl) (by kernel_rfl) (fun _ _ _ h => h) (Or.inl ⟨by rfl, fun w hSw => by (try dsimp only at hSw); go_simp⟩) hS1 ?_
        simp only [Act.put, List.setIfInBounds_toArray, List.set_cons_zero, List.set_cons_succ]
        refine wpAnyH_take (i := 11) (oi := { dst := some 7, op := Go.Op.assign (Go.Operand.tmp 26), type := 26, pos := "found.go:80", after := #[{ on := 9, ground := Go.Ground.data }, { on := 7, ground := Go.Ground.chain }, { on := 0, ground := Go.Ground.phase }, { on := 1, ground := Go.Ground.phase }, { on := 2, ground := Go.Ground.phase }, { on := 3, ground := Go.Ground.phase }, { on := 4, ground := Go.Ground.phase }, { on := 5, ground := Go.Ground.phase }, { on := 6, ground := Go.Ground.phase }, { on := 7, ground := Go.Ground.phase }, { on := 8, ground := Go.Ground.phase }, { on := 9, ground := Go.Ground.phase }, { on := 10, ground := Go.Ground.textOnly Go.Departure.lateStores }], guard := none }) (v := .int .u64 (Vs : Nat)) rfl (by kernel_rfl) (by kernel_rfl) (by kernel_rfl) (fun _ _ _ h => h) (Or.inl ⟨by rfl, fun w hSw => by (try dsimp only at hSw); go_simp⟩) hS1 ?_
        simp only [Act.put, List.setIfInBounds_toArray, List.set_cons_zero, List.set_cons_succ]
        refine wpAnyH_take (i := 12) (oi := { dst := some 8, op := Go.Op.assign (Go.Operand.tmp 27), type := 4, pos := "found.go:80", after := #[{ on := 10, ground := Go.Ground.data }, { on := 11, ground := Go.Ground.chain }, { on := 0, ground := Go.Ground.phase }, { on := 1, ground := Go.Ground.phase }, { on := 2, ground := Go.Ground.phase }, { on := 3, ground := Go.Ground.phase }, { on := 4, ground := Go.Ground.phase }, { on := 5, ground := Go.Ground.phase }, { on := 6, ground := Go.Ground.phase }, { on := 7, ground := Go.Ground.phase }, { on := 8, ground := Go.Ground.phase }, { on := 9, ground := Go.Ground.phase }, { on := 10, ground := Go.Ground.phase }, { on := 11, ground := Go.Ground.phase }], guard := none }) (v := .bool false) rfl (by kernel_rfl) (by kernel_rfl) (by kernel_rfl) (fun _ _ _ h => h) (Or.inl ⟨by rfl, fun w hSw => by (try dsimp only at hSw); go_simp⟩) hS1 ?_
        simp only [Act.put, List.setIfInBounds_toArray, List.set_cons_zero, List.set_cons_succ]
        refine wpAnyH_done (by kernel_rfl) ?_ _
        clear hS1 c43 c53 HC

        go_wp2
        go_end0
        exact ⟨rfl, _, is⟩
      | true =>
        simp only [hc] at c53
        have ef : (if true = true then (Q ++ [(n : Int)], upB M n) else (Q, M)) = (Q ++ [(n : Int)], upB M n) := if_pos rfl
        rw [ef]
        clear ef hc
        replace hF := hid1 (show Q.length + [(n : Int)].length ≤ 1000000 by simp; omega)
        go_enter Tryz.func22, Tryz.ntmps22
        go_upto_region 1 with fail
        clear m1 m2
        replace is := is.below (Below.refl _ _).drew
        have hS0 := HC.out _ _ _ _ _ is
        refine wp_region_held_drew (S := fun wr => wr.cell? ⟨bc, 0, none⟩ = some (.int .i64 (K.S : Nat)) ∧ wr.cell? ⟨bc, 1, none⟩ = some (.int .i64 K.a) ∧ wr.cell? ⟨bc, 2, none⟩ = some (.int .i64 (K.C : Nat)) ∧ wr.cell? ⟨bc, 3, none⟩ = some (.int .i64 (K.D : Nat)) ∧ wr.cell? ⟨bc, 4, none⟩ = some (.int .i64 K.g) ∧ wr.cell? ⟨bc, 5, none⟩ = some (.int .i64 K.k) ∧ wr.cell? ⟨bw, 0, none⟩ = some (.slice (some ⟨b, off, none⟩) K.N cap) ∧ wr.cell? ⟨be, 0, none⟩ = some (.int .u64 (e : Nat)) ∧ wr.cell? ⟨b, off + L, none⟩ = some (.int .u64 (W : Nat))) (by kernel_rfl) hS0 (fun hS1 => ?_)
        clear hS0
        generalize w0.drew = w0 at *
        refine wpAnyH_take (i := 0) (oi := { dst := some 18, op := Go.Op.load 25 (Go.Operand.tmp 2), type := 25, pos := "found.go:80", after := #[], guard := none }) (v := .slice (some ⟨b, off, none⟩) K.N cap) rfl (by kernel_rfl) (by kernel_rfl) (by kernel_rfl) (fun _ _ _ h => h) (Or.inl ⟨by rfl, fun w hSw => by (try dsimp only at hSw); go_simp⟩) hS1 ?_
        simp only [Act.put, List.setIfInBounds_toArray, List.set_cons_zero, List.set_cons_succ]
        refine wpAnyH_take (i := 1) (oi := { dst := some 19, op := Go.Op.load 23 (Go.Operand.tmp 3), type := 23, pos := "found.go:80", after := #[], guard := none }) (v := .agg #[.int .i64 (K.S : Nat), .int .i64 K.a, .int .i64 (K.C : Nat), .int .i64 (K.D : Nat), .int .i64 K.g, .int .i64 K.k]) rfl (by kernel_rfl) (by kernel_rfl) (by kernel_rfl) (fun _ _ _ h => h) (Or.inl ⟨by rfl, fun w hSw => by (try dsimp only at hSw); go_simp⟩) hS1 ?_
        simp only [Act.put, List.setIfInBounds_toArray, List.set_cons_zero, List.set_cons_succ]
        refine wpAnyH_take (i := 2) (oi := { dst := some 20, op := Go.Op.move (Go.Operand.tmp 0), type := 3, pos := "found.go:80", after := #[], guard := none }) (v := .int .i64 (n : Nat)) rfl (by kernel_rfl) (by kernel_rfl) (by kernel_rfl) (fun _ _ _ h => h) (Or.inl ⟨by rfl, fun w hSw => by (try dsimp only at hSw); go_simp⟩) hS1 ?_
        simp only [Act.put, List.setIfInBounds_toArray, List.set_cons_zero, List.set_cons_succ]
        refine wpAnyH_take (i := 6) (oi := { dst := some 24, op := Go.Op.load 26 (Go.Operand.tmp 4), type := 26, pos := "found.go:80", after := #[], guard := none }) (v := .int .u64 (e : Nat)) rfl (by kernel_rfl) (by kernel_rfl) (by kernel_rfl) (fun _ _ _ h => h) (Or.inl ⟨by rfl, fun w hSw => by (try dsimp only at hSw); go_simp⟩) hS1 ?_
        simp only [Act.put, List.setIfInBounds_toArray, List.set_cons_zero, List.set_cons_succ]
        refine wpAnyH_ready (rs := [3]) (by kernel_rfl) (by simp) (AllReadyH.cons (o := { dst := some 21, op := Go.Op.call { callee := Go.Callee.value (Go.Operand.func 19), args := #[Go.Operand.tmp 19, Go.Operand.tmp 20], argTypes := #[23, 3] }, type := 3, pos := "found.go:80", after := #[{ on := 1, ground := Go.Ground.data }, { on := 2, ground := Go.Ground.data }], guard := none }) rfl (fun K hK => ?_) AllReadyH.nil)
        go_simp
        go_at_call 19
        with_reducible refine (c43 _).mono ?_
        rintro r w1 ⟨rfl, b1⟩
        (try simp only [])
        replace is := is.below b1
        clear b1
        refine hK.out _ _ (HC.out _ _ _ _ _ is) (fun hS1 => ?_)
        (try simp only [Act.put, List.setIfInBounds_toArray, List.set_cons_zero, List.set_cons_succ])
        clear hK K
        refine wpAnyH_take (i := 4) (oi := { dst := some 22, op := Go.Op.indexAddr 25 (Go.Operand.tmp 18) (Go.Operand.tmp 21), type := 0, pos := "found.go:80", after := #[{ on := 0, ground := Go.Ground.data }, { on := 3, ground := Go.Ground.data }], guard := none }) (v := .pointer (some ⟨b, off + L, none⟩)) rfl (by kernel_rfl) (by kernel_rfl) (by kernel_rfl) (fun _ _ _ h => h) (Or.inl ⟨by rfl, fun w hSw => by (try dsimp only at hSw); go_simp⟩) hS1 ?_
        simp only [Act.put, List.setIfInBounds_toArray, List.set_cons_zero, List.set_cons_succ]
        refine wpAnyH_take (i := 5) (oi := { dst := some 23, op := Go.Op.load 26 (Go.Operand.tmp 22), type := 26, pos := "found.go:80", after := #[{ on := 4, ground := Go.Ground.data }], guard := none }) (v := .int .u64 (W : Nat)) rfl (by kernel_rfl) (by kernel_rfl) (by kernel_rfl) (fun _ _ _ h => h) (Or.inl ⟨by rfl, fun w hSw => by (try dsimp only at hSw); go_simp⟩) hS1 ?_
        simp only [Act.put, List.setIfInBounds_toArray, List.set_cons_zero, List.set_cons_succ]
        refine wpAnyH_ready (rs := [7]) (by kernel_rfl) (by simp) (AllReadyH.cons (o := { dst := some 25, op := Go.Op.call { callee := Go.Callee.value (Go.Operand.func 23), args := #[Go.Operand.tmp 23, Go.Operand.tmp 24], argTypes := #[26, 26] }, type := 48, pos := "found.go:80", after := #[{ on := 5, ground := Go.Ground.data }, { on := 6, ground := Go.Ground.data }, { on := 3, ground := Go.Ground.chain }], guard := none }) rfl (fun K hK => ?_) AllReadyH.nil)
        go_simp
        go_at_call 23
        with_reducible refine (c53 _ (is.wt hw.out)).mono ?_
        rintro r w2 ⟨rfl, b1⟩
        (try simp only [])
        replace is := is.below b1
        clear b1
        refine hK.out _ _ (HC.out _ _ _ _ _ is) (fun hS1 => ?_)
        (try simp only [Act.put, List.setIfInBounds_toArray, List.set_cons_zero, List.set_cons_succ])
        clear hK K
        refine wpAnyH_take (i := 8) (oi := { dst := some 17, op := Go.Op.move (Go.Operand.tmp 25), type := 48, pos := "found.go:80", after := #[{ on := 7, ground := Go.Ground.data }], guard := none }) (v := .tuple #[.int .u64 (Vs : Nat), .bool true]) rfl (by kernel_rfl) (by kernel_rfl) (by kernel_rfl) (fun _ _ _ h => h) (Or.inl ⟨by rfl, fun w hSw => by (try dsimp only at hSw); go_simp⟩) hS1 ?_
        simp only [Act.put, List.setIfInBounds_toArray, List.set_cons_zero, List.set_cons_succ]
        refine wpAnyH_take (i := 9) (oi := { dst := some 26, op := Go.Op.extract (Go.Operand.tmp 17) 0, type := 26, pos := "found.go:80", after := #[{ on := 8, ground := Go.Ground.data }], guard := none }) (v := .int .u64 (Vs : Nat)) rfl (by kernel_rfl) (by kernel_rfl) (by kernel_rfl) (fun _ _ _ h => h) (Or.inl ⟨by rfl, fun w hSw => by (try dsimp only at hSw); go_simp⟩) hS1 ?_
        simp only [Act.put, List.setIfInBounds_toArray, List.set_cons_zero, List.set_cons_succ]
        refine wpAnyH_take (i := 10) (oi := { dst := some 27, op := Go.Op.extract (Go.Operand.tmp 17) 1, type := 4, pos := "found.go:80", after := #[{ on := 8, ground := Go.Ground.data }, { on := 11, ground := Go.Ground.gcOnly Go.Departure.lateStores }], guard := none }) (v := .bool true) rfl (by kernel_rfl) (by kernel_rfl) (by kernel_rfl) (fun _ _ _ h => h) (Or.inl ⟨by rfl, fun w hSw => by (try dsimp only at hSw); go_simp⟩) hS1 ?_
        simp only [Act.put, List.setIfInBounds_toArray, List.set_cons_zero, List.set_cons_succ]
        refine wpAnyH_take (i := 11) (oi := { dst := some 7, op := Go.Op.assign (Go.Operand.tmp 26), type := 26, pos := "found.go:80", after := #[{ on := 9, ground := Go.Ground.data }, { on := 7, ground := Go.Ground.chain }, { on := 0, ground := Go.Ground.phase }, { on := 1, ground := Go.Ground.phase }, { on := 2, ground := Go.Ground.phase }, { on := 3, ground := Go.Ground.phase }, { on := 4, ground := Go.Ground.phase }, { on := 5, ground := Go.Ground.phase }, { on := 6, ground := Go.Ground.phase }, { on := 7, ground := Go.Ground.phase }, { on := 8, ground := Go.Ground.phase }, { on := 9, ground := Go.Ground.phase }, { on := 10, ground := Go.Ground.textOnly Go.Departure.lateStores }], guard := none }) (v := .int .u64 (Vs : Nat)) rfl (by kernel_rfl) (by kernel_rfl) (by kernel_rfl) (fun _ _ _ h => h) (Or.inl ⟨by rfl, fun w hSw => by (try dsimp only at hSw); go_simp⟩) hS1 ?_
        simp only [Act.put, List.setIfInBounds_toArray, List.set_cons_zero, List.set_cons_succ]
        refine wpAnyH_take (i := 12) (oi := { dst := some 8, op := Go.Op.assign (Go.Operand.tmp 27), type := 4, pos := "found.go:80", after := #[{ on := 10, ground := Go.Ground.data }, { on := 11, ground := Go.Ground.chain }, { on := 0, ground := Go.Ground.phase }, { on := 1, ground := Go.Ground.phase }, { on := 2, ground := Go.Ground.phase }, { on := 3, ground := Go.Ground.phase }, { on := 4, ground := Go.Ground.phase }, { on := 5, ground := Go.Ground.phase }, { on := 6, ground := Go.Ground.phase }, { on := 7, ground := Go.Ground.phase }, { on := 8, ground := Go.Ground.phase }, { on := 9, ground := Go.Ground.phase }, { on := 10, ground := Go.Ground.phase }, { on := 11, ground := Go.Ground.phase }], guard := none }) (v := .bool true) rfl (by kernel_rfl) (by kernel_rfl) (by kernel_rfl) (fun _ _ _ h => h) (Or.inl ⟨by rfl, fun w hSw => by (try dsimp only at hSw); go_simp⟩) hS1 ?_
        simp only [Act.put, List.setIfInBounds_toArray, List.set_cons_zero, List.set_cons_succ]
        refine wpAnyH_done (by kernel_rfl) ?_ _
        clear hS1 c43 c53 HC

        have m1 := is.m
        have m2 := (is.b hn hM).1
        have m3 := (is.b hn hM).2
        go_upto_region 4 with fail
        replace is := is.mark n true
        clear m1 m2 m3 hM
        generalize World.setCell _ _ _ = w6 at *
        have l0 := is.l.1
        obtain ⟨ad, cp, hv, _⟩ := is.own.form
        generalize Q.length = q at hv
        subst hv
        go_wp2_with (at_builtin; refine wpList_append_ints rfl _ _ rfl _ Q [(n : Int)] rfl (is.below (alloc_below _ (.cells #[.int .i64 (n : Int)] 3))).own ⟨_, 0, none⟩ 1 1 rfl rfl (by simp) (one_new _ _ _) hF.out ?_; intro v' w8 hI hg hp; replace is := (is.below (alloc_below _ (.cells #[.int .i64 (n : Int)] 3))).grow hI hg hp; clear hI hg hp l0; obtain ⟨ad', cp', hv', _⟩ := is.own.form; generalize (Q ++ [(n : Int)]).length = q' at hv'; subst hv'; have l0 := is.l.1; have f0 := is.l.2)
        go_end0
        exact ⟨rfl, _, is.put⟩
end Go.Proofs.YtcioomopgdhlmaaGreatDoor
