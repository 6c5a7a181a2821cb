/- mark's Found: what its search comes to, and a scope that is jumped back to. -/
import Derived.Test.YtcioomopgdhlmaaGreatDoorCFa
import Derived.ScopeJumps
import Derived.WalkMore
namespace Go.Proofs.YtcioomopgdhlmaaGreatDoor
open Go.RowKit
open Mm (IsMem MS touched Only IsWords)
open Hh (WT okW wordOf IsHd)

theorem least_of {p : Nat → Prop} : ∀ n, p n → ∃ m, p m ∧ ∀ k, p k → m ≤ k := by
  intro n
  induction n using Nat.strongRecOn with
  | _ n ih =>
    intro hn
    by_cases hm : ∃ m, m < n ∧ p m
    · obtain ⟨m, h1, h2⟩ := hm
      exact ih m h1 h2
    · exact ⟨n, hn, fun k hk => Nat.le_of_not_lt fun hl => hm ⟨k, hl, hk⟩⟩
/-- A scope that is jumped back to: what holds at a jump, with a number that falls. -/
theorem scope_n {P : Program} {a : Act} {w : World} {Q : Exit → Act → World → Prop} {c rest : Code} (l : Nat) (J : Nat → Act → World → Prop) (hf : findLabel c l = some (Code.skip.seq rest))
    (pass : ∀ n a w, J n a w → rest.wp P (Exit.jump l (fun a' w' => ∃ m, m < n ∧ J m a' w') Q) a w)
    (first : (∀ n a w, J n a w → rest.wp P (Exit.jump l (fun a' w' => ∃ m, J m a' w') Q) a w) → c.wp P (Exit.jump l (fun a' w' => ∃ m, J m a' w') Q) a w) : (Code.scope c).wp P Q a w := by
  classical
  obtain ⟨mu, hmu⟩ : ∃ mu : Act → World → Nat, ∀ a w, (∃ n, J n a w) → J (mu a w) a w ∧ ∀ k, J k a w → mu a w ≤ k := by
    refine ⟨fun a w => if h : ∃ n, J n a w then Classical.choose (least_of (p := fun n => J n a w) _ (Classical.choose_spec h)) else 0, fun a w h => ?_⟩
    simp only [dif_pos h]
    exact Classical.choose_spec (least_of (p := fun n => J n a w) _ (Classical.choose_spec h))
  refine wp_scope_jumps l (fun a w => ∃ n, J n a w) mu hf (first fun n a w h => ?_) fun a w h => ?_
  · refine Code.wp_mono (fun e a' w' q => ?_) (pass n a w h)
    cases e with
    | goto l' => obtain ⟨h1, m, _, h3⟩ := q; exact ⟨h1, m, h3⟩
    | normal => exact q
    | exit id => exact q
    | ret => exact q
    | panic ch => exact q
    | outgrown => exact q
  · refine wp_seq (wp_skip (Code.wp_mono (fun e a' w' q => ?_) (pass _ a w (hmu a w h).1)))
    cases e with
    | goto l' =>
      obtain ⟨h1, m, h2, h3⟩ := q
      exact ⟨h1, ⟨m, h3⟩, Nat.lt_of_le_of_lt ((hmu a' w' ⟨m, h3⟩).2 m h3) h2⟩
    | normal => exact q
    | exit id => exact q
    | ret => exact q
    | panic ch => exact q
    | outgrown => exact q

/-- A list of slots, as ints. -/
def zs (W : List Nat) : List Int := W.map fun (t : Nat) => (t : Int)
theorem zs_len (W : List Nat) : (zs W).length = W.length := by simp [zs]
theorem zs_snoc (W : List Nat) (t : Nat) : zs W ++ [(t : Int)] = zs (W ++ [t]) := by simp [zs]

/-- The heap of these words, as the searches see it. -/
def gp (K : Cf) (X : List Nat) (e : Nat) : Gp where
  S := K.S
  can := fun s => decide (s < K.S) && canS (X.getD (K.hd s) 0) e
  m0 := fun s => decide (s < K.S) && mkdW (X.getD (K.hd s) 0) e
  g := fun s => grayW (X.getD (K.hd s) 0)
  rt := fun s => (s : Int) ∈ rtL K X K.C
  nam := fun t s => (s : Int) ∈ nmL K X t
theorem rtL_b (K : Cf) (X : List Nat) : ∀ k, ∀ x ∈ rtL K X k, -1 ≤ x ∧ x < K.S
  | 0 => by simp [rtL]
  | k + 1 => by
    intro x hx
    simp only [rtL, List.mem_append, List.mem_singleton] at hx
    rcases hx with (hx | hx) | hx
    · exact rtL_b K X k x hx
    · simp only [enL, List.mem_map] at hx
      obtain ⟨i, _, rfl⟩ := hx
      exact K.nm_b _
    · subst hx; exact K.nm_b _
theorem nmL_b (K : Cf) (X : List Nat) (t : Nat) : ∀ x ∈ nmL K X t, -1 ≤ x ∧ x < K.S := by
  intro x hx
  unfold nmL at hx
  split at hx
  · simp only [List.mem_map] at hx
    obtain ⟨i, _, rfl⟩ := hx
    exact K.nm_b _
  · split at hx
    · simp only [List.mem_cons, List.not_mem_nil, or_false] at hx
      rcases hx with rfl | rfl <;> exact K.nm_b _
    · cases hx
theorem gp_ok (K : Cf) (X : List Nat) (e : Nat) : (gp K X e).Ok where
  rt := fun s hs => by have := (rtL_b K X K.C _ hs).2; show s < K.S; omega
  nam := fun t s hs => by have := (nmL_b K X t _ hs).2; show s < K.S; omega
  can := fun s hs => by
    have h1 : (decide (s < K.S) && canS (X.getD (K.hd s) 0) e) = true := hs
    show (decide (s < K.S) && mkdW (X.getD (K.hd s) 0) e) = false
    rw [can_liv] at h1
    simp only [Bool.and_eq_true, Bool.not_eq_true'] at h1
    rw [h1.2.2, Bool.and_false]
/-- What finding a slot does, seen by the search. -/
theorem fnX_pi {K : Cf} {X : List Nat} {e : Nat} {x : Int} {F : List Int} {W : List Nat} {M : Nat → Bool} (h : Pi (gp K X e) (x :: F) W M) :
    ∃ W' M', fnX K X e x (zs W, M) = (zs W', M') ∧ Pi (gp K X e) F W' M' ∧ unB M' K.S + W'.length = unB M K.S + W.length := by
  have hb : -1 ≤ x ∧ x < K.S := h.fr x (by simp)
  unfold fnX
  by_cases h1 : x = -1
  · rw [if_pos h1]
    exact ⟨W, M, rfl, h.skip (.inl h1), rfl⟩
  · rw [if_neg h1]
    obtain ⟨n, rfl⟩ : ∃ n : Nat, x = (n : Int) := ⟨x.toNat, by omega⟩
    have hn : n < K.S := by omega
    simp only [Int.toNat_natCast]
    by_cases h2 : M n = true
    · rw [if_pos h2]
      exact ⟨W, M, rfl, h.skip (.inr ⟨n, rfl, .inl h2⟩), rfl⟩
    · rw [if_neg h2]
      by_cases h3 : canS (X.getD (K.hd n) 0) e = true
      · rw [if_pos h3]
        have hc : (gp K X e).can n = true := by show (decide (n < K.S) && canS (X.getD (K.hd n) 0) e) = true; rw [h3, decide_eq_true hn]; rfl
        refine ⟨W ++ [n], upB M n, by rw [zs_snoc], h.take hc, ?_⟩
        have := unB_up M (x := n) (by simpa using h2) K.S hn
        simp only [List.length_append, List.length_singleton]
        omega
      · rw [if_neg h3]
        have hc : (gp K X e).can n = false := by show (decide (n < K.S) && canS (X.getD (K.hd n) 0) e) = false; rw [show canS (X.getD (K.hd n) 0) e = false by simpa using h3, Bool.and_false]
        exact ⟨W, M, rfl, h.skip (.inr ⟨n, rfl, .inr hc⟩), rfl⟩
/-- The gray slots among the first n. -/
def gl (K : Cf) (X : List Nat) (n : Nat) : List Nat := (List.range n).filter fun s => grayW (X.getD (K.hd s) 0)
theorem gl_yes {K : Cf} {X : List Nat} {n : Nat} (h : grayW (X.getD (K.hd n) 0) = true) : zs (gl K X n) ++ [(n : Int)] = zs (gl K X (n + 1)) := by
  rw [zs_snoc]
  unfold gl
  rw [List.range_succ, List.filter_append, List.filter_cons_of_pos (by simpa using h), List.filter_nil]
theorem gl_no {K : Cf} {X : List Nat} {n : Nat} (h : grayW (X.getD (K.hd n) 0) = false) : zs (gl K X n) = zs (gl K X (n + 1)) := by
  unfold gl
  rw [List.range_succ, List.filter_append, List.filter_cons_of_neg (by show ¬ grayW (X.getD (K.hd n) 0) = true; rw [h]; decide), List.filter_nil, List.append_nil]
theorem gl_len (K : Cf) (X : List Nat) (n : Nat) : (gl K X n).length ≤ n := by
  unfold gl
  exact Nat.le_trans (List.length_filter_le _ _) (by simp)
theorem gl_mem (K : Cf) (X : List Nat) (e n t : Nat) : t ∈ gl K X n ↔ t < n ∧ (gp K X e).g t = true := by
  unfold gl
  rw [List.mem_filter, List.mem_range]
  exact Iff.rfl
def m0n (K : Cf) (X : List Nat) (e n : Nat) : Nat → Bool := fun s => decide (s < n) && mkdW (X.getD (K.hd s) 0) e
theorem m0n_succ (K : Cf) (X : List Nat) (e n : Nat) : setB (m0n K X e n) n (mkdW (X.getD (K.hd n) 0) e) = m0n K X e (n + 1) := by
  funext s
  unfold setB m0n
  by_cases h : s = n
  · subst h; simp
  · have e1 : decide (s < n) = decide (s < n + 1) := by by_cases h2 : s < n <;> simp <;> omega
    simp [h, e1]
theorem m0n_all (K : Cf) (X : List Nat) (e : Nat) : m0n K X e K.S = (gp K X e).m0 := rfl
theorem m0n_zero (K : Cf) (X : List Nat) (e : Nat) : m0n K X e 0 = fun _ => false := by funext s; simp [m0n]
theorem found_start (K : Cf) (X : List Nat) (e : Nat) : Pi (gp K X e) (rtL K X K.C) (gl K X K.S) (m0n K X e K.S) ∧ unB (m0n K X e K.S) K.S + (gl K X K.S).length ≤ 2 * K.S :=
  ⟨Pi.start (fun _ => Iff.rfl) (rtL_b K X K.C) (gl_mem K X e K.S), by have := unB_le (m0n K X e K.S) K.S; have := gl_len K X K.S; omega⟩

/-- What Found knows ahead of its row. -/
structure Fw (w wr : World) (K : Cf) (bc bw be b off cap e : Nat) : Prop where
  cfg : IsCfg wr bc K.S K.a K.C K.D K.g K.k
  ws : wr.heap[bw]? = some (.cells #[.slice (some ⟨b, off, none⟩) K.N cap] 25 (0, 0))
  ec : wr.heap[be]? = some (.cells #[.int .u64 (e : Nat)] 26 (0, 0))
  bel : Below w.heap.size w wr
theorem Fw.below {w wr w' : World} {K : Cf} {bc bw be b off cap e : Nat} (h : Fw w wr K bc bw be b off cap e) (k : Below wr.heap.size wr w') : Fw w w' K bc bw be b off cap e :=
  ⟨h.cfg.below k, (k.block _ (lt_of_block h.ws)).trans h.ws, (k.block _ (lt_of_block h.ec)).trans h.ec, seq_below h.bel k⟩
theorem Fw.start (w : World) (K : Cf) (b off cap e : Nat) : Fw w (((w.alloc (.cells #[.int .i64 (K.S : Nat), .int .i64 K.a, .int .i64 (K.C : Nat), .int .i64 (K.D : Nat), .int .i64 K.g, .int .i64 K.k] 23)).alloc (.cells #[.slice (some ⟨b, off, none⟩) K.N cap] 25)).alloc (.cells #[.int .u64 (e : Nat)] 26)) K w.heap.size (w.heap.size + 1) (w.heap.size + 1 + 1) b off cap e := by
  have h1 := cfg_new w K.S K.a K.C K.D K.g K.k
  have b1 := alloc_below w (.cells #[.int .i64 (K.S : Nat), .int .i64 K.a, .int .i64 (K.C : Nat), .int .i64 (K.D : Nat), .int .i64 K.g, .int .i64 K.k] 23)
  have e1 : (w.alloc (.cells #[.int .i64 (K.S : Nat), .int .i64 K.a, .int .i64 (K.C : Nat), .int .i64 (K.D : Nat), .int .i64 K.g, .int .i64 K.k] 23)).heap.size = w.heap.size + 1 := by simp
  generalize w.alloc (.cells #[.int .i64 (K.S : Nat), .int .i64 K.a, .int .i64 (K.C : Nat), .int .i64 (K.D : Nat), .int .i64 K.g, .int .i64 K.k] 23) = w1 at *
  have h2 := new_obj w1 (.cells #[.slice (some ⟨b, off, none⟩) K.N cap] 25)
  have b2 := alloc_below w1 (.cells #[.slice (some ⟨b, off, none⟩) K.N cap] 25)
  have e2 : (w1.alloc (.cells #[.slice (some ⟨b, off, none⟩) K.N cap] 25)).heap.size = w1.heap.size + 1 := by simp
  generalize w1.alloc (.cells #[.slice (some ⟨b, off, none⟩) K.N cap] 25) = w2 at *
  have h3 := new_obj w2 (.cells #[.int .u64 (e : Nat)] 26)
  have b3 := alloc_below w2 (.cells #[.int .u64 (e : Nat)] 26)
  generalize w2.alloc (.cells #[.int .u64 (e : Nat)] 26) = w3 at *
  rw [e1] at h2
  rw [e2, e1] at h3
  exact ⟨(h1.below b2).below b3, (b3.block _ (by rw [e2, e1]; omega)).trans h2, h3, seq_below (seq_below b1 b2) b3⟩
theorem bools_made (n : Nat) : madeCells #[.bool false] n = bools n (fun _ => false) := by
  apply Array.ext
  · simp [madeCells, bools]
  · intro i h1 h2
    simp [madeCells, bools, Nat.mod_one]
theorem Fw.made {w wr : World} {K : Cf} {bc bw be b off cap e : Nat} (h : Fw w wr K bc bw be b off cap e) :
    Fv w (((wr.alloc (.cells (madeCells #[.bool false] K.S) 4)).alloc (.cells #[.slice (some ⟨wr.heap.size, 0, none⟩) K.S K.S] 29)).alloc (.cells #[.slice none 0 0] 45)) K bc bw be wr.heap.size (wr.heap.size + 1) (wr.heap.size + 1 + 1) b off cap e (.slice none 0 0) (.slice none 0 0) [] (fun _ => false) (.slice none 0 0) [] := by
  rw [bools_made]
  have h1 := new_obj wr (.cells (bools K.S fun _ => false) 4)
  have b1 := alloc_below wr (.cells (bools K.S fun _ => false) 4)
  have e1 : (wr.alloc (.cells (bools K.S fun _ => false) 4)).heap.size = wr.heap.size + 1 := by simp
  generalize wr.alloc (.cells (bools K.S fun _ => false) 4) = w1 at *
  have h2 := new_obj w1 (.cells #[.slice (some ⟨wr.heap.size, 0, none⟩) K.S K.S] 29)
  have b2 := alloc_below w1 (.cells #[.slice (some ⟨wr.heap.size, 0, none⟩) K.S K.S] 29)
  have e2 : (w1.alloc (.cells #[.slice (some ⟨wr.heap.size, 0, none⟩) K.S K.S] 29)).heap.size = w1.heap.size + 1 := by simp
  generalize w1.alloc (.cells #[.slice (some ⟨wr.heap.size, 0, none⟩) K.S K.S] 29) = w2 at *
  have h3 := new_obj w2 (.cells #[.slice none 0 0] 45)
  have b3 := alloc_below w2 (.cells #[.slice none 0 0] 45)
  generalize w2.alloc (.cells #[.slice none 0 0] 45) = w3 at *
  rw [e1] at h2
  rw [e2, e1] at h3
  have hk := ((h.below b1).below b2).below b3
  have hs := h.bel.size
  exact ⟨hk.cfg, hk.ws, hk.ec, (b3.block _ (by rw [e2, e1]; omega)).trans ((b2.block _ (by rw [e1]; omega)).trans h1), (b3.block _ (by rw [e2, e1]; omega)).trans h2, h3, IsZ.nil _, (fun g hg => by cases hg), hk.bel, hs, by omega, IsZ.nil _, (fun g hg => by cases hg)⟩
/-- Another list is found. -/
theorem Fv.newf {w wr : World} {K : Cf} {bc bw be R bm bt b off cap e : Nat} {u v vf : Value} {W Ff : List Int} {M : Nat → Bool} (h : Fv w wr K bc bw be R bm bt b off cap e u v W M vf Ff) {w' : World} (k : Below wr.heap.size wr w') {vf' : Value} {F' : List Int} (hI : IsZ w' vf' F') (ho : ∀ g, vf'.ownBlock = some g → wr.heap.size ≤ g) : Fv w w' K bc bw be R bm bt b off cap e u v W M vf' F' :=
  have q := h.below k
  ⟨q.cfg, q.ws, q.ec, q.row, q.ml, q.wl, q.own, q.og, q.bel, q.nR, q.nt, hI, fun g hg e => by have := ho g hg; have := h.own.lt e; omega⟩
/-- The last that waits is taken off. -/
theorem Fv.cut {w wr : World} {K : Cf} {bc bw be R bm bt b off cap e : Nat} {u vf : Value} {W Ff : List Int} {M : Nat → Bool} {ad : Option Addr} {n cp : Nat} {x : Int} (h : Fv w wr K bc bw be R bm bt b off cap e u (.slice ad n cp) (W ++ [x]) M vf Ff) : Fv w wr K bc bw be R bm bt b off cap e u (.slice ad W.length cp) W M vf Ff :=
  ⟨h.cfg, h.ws, h.ec, h.row, h.ml, h.wl, h.own.init, fun g hg => h.og g (by cases ad <;> exact hg), h.bel, h.nR, h.nt, h.fd, fun g hg e => h.fa g hg (by cases ad <;> exact e)⟩
end Go.Proofs.YtcioomopgdhlmaaGreatDoor
