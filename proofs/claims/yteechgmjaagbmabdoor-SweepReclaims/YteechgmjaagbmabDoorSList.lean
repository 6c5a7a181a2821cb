/- The contracts of the reference's List and of stack's: the slots of the free list of any words. -/
import Derived.Test.YteechgmjaagbmabDoorSInts
import Derived.Test.YteechgmjaagbmabDoorDB
namespace Go.Proofs.YteechgmjaagbmabDoor
open Go.RowKit

/-- The free list from a number on, no more slots than n. -/
def walkL (K : Cf) (X : List Nat) : Nat → Nat → List Nat
  | 0, _ => []
  | n + 1, x => if 1 ≤ x ∧ x ≤ K.S then (x - 1) :: walkL K X n (X.getD (K.lk (x - 1)) 0) else []
def lst (K : Cf) (X : List Nat) : List Nat := walkL K X K.S (X.getD 3 0 % 65536)

theorem walkL_len (K : Cf) (X : List Nat) : ∀ n x, (walkL K X n x).length ≤ n
  | 0, _ => by simp [walkL]
  | n + 1, x => by
    unfold walkL
    split
    · exact Nat.succ_le_succ (walkL_len K X n _)
    · simp
theorem lst_len (K : Cf) (X : List Nat) : (lst K X).length ≤ K.S := walkL_len K X _ _

/-- All that is known of the world while the list is laid. -/
structure Ls (w wr : World) (K : Cf) (X : List Nat) (v : Value) (xs : List Nat) (x : Nat) : Prop where
  own : IsI wr v xs
  base : ∀ g, v.ownBlock = some g → w.heap.size + 1 ≤ g
  cfg : IsCfg wr w.heap.size K.S K.a K.C K.D K.g K.k
  bel : Below w.heap.size w wr
  eq : lst K X = xs ++ walkL K X (K.S - xs.length) x
  lt : x < 18446744073709551616
  le : xs.length ≤ K.S

theorem Ls.below {w wr w1 : World} {K : Cf} {X : List Nat} {v : Value} {xs : List Nat} {x : Nat} (h : Ls w wr K X v xs x) (b : Below wr.heap.size wr w1) : Ls w w1 K X v xs x :=
  ⟨h.own.below b, h.base, h.cfg.below b, h.bel.trans (b.mono h.bel.size), h.eq, h.lt, h.le⟩

theorem Ls.step {w wr w1 : World} {K : Cf} {X : List Nat} {v v' : Value} {xs : List Nat} {s : Nat} (h : Ls w wr K X v xs (s + 1)) (hs : s < K.S) (hl : xs.length < K.S) (o : Obj)
    (hI : IsI w1 v' (xs ++ [s])) (hg : (wr.alloc o).grownBy w1 v.ownBlock) (hp : v'.ownBlock = v.ownBlock ∨ ∃ g, v'.ownBlock = some g ∧ wr.heap.size + 1 ≤ g) (hX : ∀ i, X.getD i 0 < 18446744073709551616) : Ls w w1 K X v' (xs ++ [s]) (X.getD (K.lk s) 0) := by
  have hb : ∀ i, i ≤ w.heap.size → w1.heap[i]? = wr.heap[i]? := fun i hi => by
    have hlt := h.cfg.lt
    rw [hg.block i (by simp; omega) (fun e => by have := h.base i e.symm; omega)]
    exact (alloc_below wr o).block i (by omega)
  refine ⟨hI, ?_, ?_, ?_, ?_, hX _, by simp; omega⟩
  · intro g hgv
    rcases hp with e | ⟨g', e, hg'⟩
    · exact h.base g (e ▸ hgv)
    · rw [e] at hgv
      have hlt := h.cfg.lt
      simp at hgv
      omega
  · show w1.heap[w.heap.size]? = _
    rw [hb _ (Nat.le_refl _)]; exact h.cfg
  · exact ⟨hg.os.trans h.bel.os, hg.tape.trans h.bel.tape, hg.output.trans h.bel.output, Nat.le_trans h.bel.size (Nat.le_trans (by simp) hg.size), fun i hi => (hb i (by omega)).trans (h.bel.block i hi)⟩
  · rw [h.eq, show K.S - xs.length = (K.S - (xs ++ [s]).length) + 1 by simp; omega]
    conv => lhs; unfold walkL
    rw [if_pos ⟨by omega, by omega⟩, Nat.add_sub_cancel]
    simp

theorem Ls.done {w wr : World} {K : Cf} {X : List Nat} {v : Value} {xs : List Nat} {x : Nat} (h : Ls w wr K X v xs x) (he : ¬ (1 ≤ x ∧ x ≤ K.S) ∨ ¬ xs.length < K.S) : IsI wr v (lst K X) ∧ (∀ g, v.ownBlock = some g → w.heap.size ≤ g) ∧ Below w.heap.size w wr := by
  have e : lst K X = xs := by
    rw [h.eq]
    cases hn : K.S - xs.length with
    | zero => simp [walkL]
    | succ n =>
      unfold walkL
      rw [if_neg (by rcases he with he | he <;> omega)]
      simp
  rw [e]
  exact ⟨h.own, fun g hg => by have := h.base g hg; omega, h.bel⟩

theorem at_link {K : Cf} (hK : K.Ok) (s : Nat) (hs : s < K.S) (w : World) :
    Calls Tryd.prog 28 #[.agg K.cs, .agg #[.string ⟨#[108, 105, 110, 107]⟩, .int .i64 (s : Nat), .int .i64 0]] w fun e w' => e = .returned (.int .i64 (K.lk s : Nat)) ∧ Below w.heap.size w w' :=
  at_yes hK.r hK.b hK.b8 9 s 0 (K.lk s) (by omega) (hK.lk_lt hs) (wat_link K.C K.D K.B s) w

/-- A slice's length. -/
def slLen : Value → Nat
  | .slice _ n _ => n
  | _ => 0
theorem IsI.slLen {w : World} {v : Value} {xs : List Nat} (h : IsI w v xs) : slLen v = xs.length := by
  obtain ⟨ad, cap, rfl, _⟩ := h.form
  rfl

set_option maxHeartbeats 4000000 in
theorem rlist_yes {K : Cf} (hK : K.Ok) {w : World} {b off cap : Nat} {X : List Nat} (hR : RdW w b off X) (hX : X.length = K.N) (hlt : ∀ i, X.getD i 0 < 18446744073709551616) :
    Calls Tryd.prog 23 #[.agg K.cs, .slice (some ⟨b, off, none⟩) K.N cap] w fun e w' => ∃ v, e = .returned v ∧ IsI w' v (lst K X) ∧ (∀ g, v.ownBlock = some g → w.heap.size ≤ g) ∧ Below w.heap.size w w' := by
  have c1 := rright_any K.S K.a K.C K.D K.g K.k
  rw [hK.r] at c1
  have c2 := words_r K.C K.D K.S K.B K.a K.g K.k hK.c8 hK.d16 hK.s64 hK.b hK.b8
  rw [show nW K.C K.D K.B K.S = K.N from rfl] at c2
  have c3 := at_link hK
  have hN := hK.N_b
  have hS := hK.s64
  have hlk : ∀ s, s < K.S → K.lk s < K.N := fun s hs => hK.lk_lt hs
  have bel := alloc_below w (.cells #[.int .i64 (K.S : Nat), .int .i64 K.a, .int .i64 (K.C : Nat), .int .i64 (K.D : Nat), .int .i64 K.g, .int .i64 K.k] 23)
  have hh := cfg_new w K.S K.a K.C K.D K.g K.k
  go_enter Tryd.func23, Tryd.ntmps23
  go_upto_region 1 with fail
  generalize w.alloc (.cells #[.int .i64 (K.S : Nat), .int .i64 K.a, .int .i64 (K.C : Nat), .int .i64 (K.D : Nat), .int .i64 K.g, .int .i64 K.k] 23) = w0 at *
  obtain ⟨l0, l1, l2, l3, l4, l5⟩ := hh.cells
  go_upto_region 4 with (first
    | (go_at_call 29; refine (c1 _).mono ?_; rintro e w1 ⟨rfl, hb⟩; replace bel := seq_below bel hb; replace hh := hh.below hb; clear hb l0 l1 l2 l3 l4 l5; obtain ⟨l0, l1, l2, l3, l4, l5⟩ := hh.cells)
    | (go_at_call 14; refine (c2 _).mono ?_; rintro e w1 ⟨R, cap2, rfl, _, _, hb⟩; replace bel := seq_below bel hb; replace hh := hh.below hb; clear hb l0 l1 l2 l3 l4 l5; obtain ⟨l0, l1, l2, l3, l4, l5⟩ := hh.cells))
  have q3 := (hR.below bel).2 3 (by omega)
  have h3 := hlt 3
  have ls : Ls w w1 K X (.slice none 0 0) [] (X.getD 3 0 % 65536) := ⟨IsI.nil _, (fun g hg => by cases hg), hh, bel, rfl, by omega, Nat.zero_le _⟩
  clear bel hh c1 c2
  have hR' : ∀ w', Below w.heap.size w w' → RdW w' b off X := fun w' h => hR.below h
  clear hR
  go_wp2
  go_loopw [5, 6] (fun v x wr => ∃ (xs : List Nat) (y : Nat), x = .int .u64 (y : Nat) ∧ Ls w wr K X v xs y) (fun v _ _ => K.S - slLen v)
  case atStart => exact ⟨[], X.getD 3 0 % 65536, by go_num, ls⟩
  case round =>
    clear ls q3 h3 l0 l1 l2 l3 l4 l5
    obtain ⟨xs, y, rfl, ls⟩ := hrel
    obtain ⟨l0, l1, l2, l3, l4, l5⟩ := ls.cfg.cells
    obtain ⟨ad, cp, hv, hcp, _⟩ := ls.own.form
    have hyl := ls.lt
    have hle := ls.le
    by_cases hy : 1 ≤ y ∧ y ≤ K.S
    · by_cases hl : xs.length < K.S
      · obtain ⟨s, rfl⟩ : ∃ s, y = s + 1 := ⟨y - 1, by omega⟩
        have hs : s < K.S := by omega
        have d3 := c3 s hs
        have hL := hlk s hs
        have hy2 := hy.2
        subst hv
        go_wp2_with (first
          | (at_builtin; refine wpList_append_ints rfl _ _ rfl _ xs [s] rfl (ls.own.below (alloc_below _ _)) ⟨_, 0, none⟩ 1 1 rfl rfl (by simp) (one_new _ _ _) ?c3 ?_))
        case c3 => simp; omega
        intro v' w2 hI hg hp
        have ls' := ls.step hs hl _ hI hg hp hlt
        clear hI hg hp l0 l1 l2 l3 l4 l5 ls hyl hy
        obtain ⟨l0, l1, l2, l3, l4, l5⟩ := ls'.cfg.cells
        have hx := hlt (K.lk s)
        have q0 : ∀ w', Below w.heap.size w w' → w'.cell? ⟨b, off + K.lk s, none⟩ = some (.int .u64 (X.getD (K.lk s) 0 : Nat)) := fun w' h => (hR' w' h).2 (K.lk s) (by omega)
        generalize X.getD (K.lk s) 0 = nv at *
        go_wp2_with (first
          | (go_at_call 28; refine (d3 _).mono ?_; rintro e w3 ⟨rfl, hb⟩; replace ls' := ls'.below hb; have q := q0 _ ls'.bel; clear hb l0 l1 l2 l3 l4 l5))
        go_roundw
        case rel => exact ⟨_, _, rfl, ls'⟩
        case measure => rw [ls'.own.slLen]; simp [slLen]; omega
      · subst hv
        go_wp2
        go_ret
        exact ⟨_, rfl, ls.done (.inr hl)⟩
    · subst hv
      go_wp2
      all_goals go_ret
      all_goals exact ⟨_, rfl, ls.done (.inl hy)⟩
end Go.Proofs.YteechgmjaagbmabDoor
