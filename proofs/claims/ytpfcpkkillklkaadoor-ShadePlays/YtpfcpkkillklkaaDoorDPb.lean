/- Machines that are made one by one, in a list. -/
import Derived.Test.YtpfcpkkillklkaaDoorDPs
import Derived.Deep.AppendLies
namespace Go.Proofs.YtpfcpkkillklkaaDoor
open Go.RowKit
open Mm (IsMem IsWords MS zeroMS)
open Hh (WT okW whiteH wordOf Hr blackN usedK)

def ptrs (ps : Nat → Nat) (j : Nat) : List Value := (List.range j).map fun i => .pointer (some ⟨ps i, 0, none⟩)
theorem ptrs_len (ps : Nat → Nat) (j : Nat) : (ptrs ps j).length = j := by simp [ptrs]
theorem ptrs_get (ps : Nat → Nat) {j i : Nat} (h : i < j) : (ptrs ps j)[i]? = some (.pointer (some ⟨ps i, 0, none⟩)) := by simp [ptrs, h]
theorem ptrs_push (ps : Nat → Nat) (j P : Nat) : ptrs ps j ++ [.pointer (some ⟨P, 0, none⟩)] = ptrs (fun i => if i = j then P else ps i) (j + 1) := by
  unfold ptrs
  rw [List.range_succ, List.map_append]
  congr 1
  · apply List.map_congr_left
    intro i hi
    simp at hi
    have : i ≠ j := by omega
    simp [this]
  · simp

structure Bd (w wr : World) (K : Cf) (e M G R base : Nat) (Y : List Nat) (kk : Nat → Nat) (j : Nat) (v : Value) (ps : Nat → Nat) : Prop where
  ds : Ds w wr K M G Y 0
  was : IsWords wr R Y
  shd : ∀ i, i < j → IsShd wr (ps i) false ((K.hd (kk i) : Nat) : Int) e 0 0 0
  far : ∀ i, i < j → base ≤ ps i
  apart : ∀ i i', i < j → i' < j → i ≠ i' → ps i ≠ ps i'
  own : wr.ownsRow base 34 1 v j (ptrs ps j)
  hb : M < base ∧ G < base ∧ R < base ∧ w.heap.size + 1 ≤ base ∧ base ≤ wr.heap.size ∧ R ≠ M ∧ R ≠ G

theorem Bd.below {w wr w' : World} {K : Cf} {e M G R base : Nat} {Y : List Nat} {kk : Nat → Nat} {j : Nat} {v : Value} {ps : Nat → Nat} (h : Bd w wr K e M G R base Y kk j v ps) (b : Below wr.heap.size wr w') : Bd w w' K e M G R base Y kk j v ps :=
  ⟨h.ds.below b, words_below h.was b, fun i hi => (h.shd i hi).below b, h.far, h.apart, own_below h.own b, by have := h.hb; have := b.size; omega⟩
theorem Bd.drew {w wr : World} {K : Cf} {e M G R base : Nat} {Y : List Nat} {kk : Nat → Nat} {j : Nat} {v : Value} {ps : Nat → Nat} (h : Bd w wr K e M G R base Y kk j v ps) : Bd w wr.drew K e M G R base Y kk j v ps := h.below (Below.refl _ _).drew
theorem chg_grown {w w' : World} {row : Option Nat} (h : w.grownBy w' row) : Chg row.toList w w' := ⟨h.os, h.tape, h.output, h.size, fun i hi hn => h.block i hi fun e => hn (by rw [← e]; simp)⟩

/-- The row's block is none of the machines'. -/
theorem Bd.row_ne {w wr : World} {K : Cf} {e M G R base : Nat} {Y : List Nat} {kk : Nat → Nat} {j : Nat} {v : Value} {ps : Nat → Nat} (h : Bd w wr K e M G R base Y kk j v ps) {g : Nat} (hg : v.ownBlock = some g) {P : Nat} {gw : Bool} {hd : Int} {pc : Int} {was nw : Nat} (hp : IsShd wr P gw hd e pc was nw) : P ≠ g := fun x => by
  subst x
  obtain ⟨_, ⟨rfl, _⟩ | ⟨g', cap, cur, rfl, _, h3, _⟩⟩ := h.own
  · simp [Value.ownBlock] at hg
  · simp [Value.ownBlock] at hg
    subst hg
    have hp' : wr.heap[g']? = _ := hp
    rw [hp'] at h3
    simp at h3

theorem Bd.push {w wr w1 : World} {K : Cf} {e M G R base : Nat} {Y : List Nat} {kk : Nat → Nat} {j : Nat} {v : Value} {ps : Nat → Nat} (h : Bd w wr K e M G R base Y kk j v ps) {P : Nat} (hp : IsShd wr P false ((K.hd (kk j) : Nat) : Int) e 0 0 0) (hP : base ≤ P) (hn : ∀ i, i < j → ps i ≠ P)
    {g cap : Nat} (hown : w1.ownsRow base 34 1 (.slice (some ⟨g, 0, none⟩) (j + 1) cap) (j + 1) (ptrs ps j ++ [.pointer (some ⟨P, 0, none⟩)])) (hg : wr.grownBy w1 v.ownBlock) :
    Bd w w1 K e M G R base Y kk (j + 1) (.slice (some ⟨g, 0, none⟩) (j + 1) cap) (fun i => if i = j then P else ps i) := by
  have c := chg_grown hg
  have hb := h.hb
  have hrow : ∀ x, x ∈ v.ownBlock.toList → base ≤ x := fun x hx => (h.own.lt x (by simpa using hx)).1
  have hne : ∀ {Q : Nat} {gw : Bool} {hd : Int} {pc : Int} {was nw : Nat}, IsShd wr Q gw hd e pc was nw → Q ∉ v.ownBlock.toList := fun hq hx => h.row_ne (by simpa using hx) hq rfl
  have hlow : ∀ x, x < base → x ∉ v.ownBlock.toList := fun x hx hm => by have := hrow x hm; omega
  refine ⟨⟨h.ds.mem.chg c (hlow _ (by omega)) (hlow _ (by omega)), h.ds.cfg.chg c (hlow _ (by omega)), c.below h.ds.bel (fun x hx => by have := hrow x hx; omega) (Nat.le_refl _), WT.chg h.ds.wt c (hlow _ (by omega)), h.ds.hM, h.ds.hG⟩, c.at h.was (hlow _ (by omega)), fun i hi => ?_, fun i hi => ?_, fun i i' hi hi' hii => ?_, ?_, by have := c.size; omega⟩
  · by_cases hij : i = j
    · subst hij; simp only [if_true]; exact hp.chg c (hne hp)
    · simp only [if_neg hij]
      exact (h.shd i (by omega)).chg c (hne (h.shd i (by omega)))
  · by_cases hij : i = j
    · simp only [if_pos hij]; exact hP
    · simp only [if_neg hij]; exact h.far i (by omega)
  · by_cases hij : i = j
    · have hij' : i' ≠ j := by omega
      simp only [if_pos hij, if_neg hij']
      exact (hn i' (by omega)).symm
    · by_cases hij' : i' = j
      · simp only [if_neg hij, if_pos hij']
        exact hn i (by omega)
      · simp only [if_neg hij, if_neg hij']
        exact h.apart i i' (by omega) (by omega) hii
  · rw [← ptrs_push]; exact hown

/-- All are made: none has gone a step. -/
theorem Bd.pl {w wr : World} {K : Cf} {e M G R base : Nat} {Y : List Nat} {kk : Nat → Nat} {n : Nat} {v : Value} {ps : Nat → Nat} (h : Bd w wr K e M G R base Y kk n v ps) (hl : Y.length = K.N) (hk : ∀ i, i < n → kk i < K.S) (h2 : Y.getD 2 0 = grN K Y K.S) (ho : ∀ s, s < K.S → grayW (Y.getD (K.hd s) 0) = true → canS (Y.getD (K.hd s) 0) e = false) :
    ∃ (ad : Option Addr) (cap L : Nat), v = .slice ad n cap ∧ (0 < n → ad = some ⟨L, 0, none⟩) ∧ n ≤ cap ∧ Pl w wr K e n M G L R Y Y 0 kk (fun i => ⟨ps i, kk i, false, 0, 0, 0⟩) := by
  have hb := h.hb
  have hinv : Inv K e n Y Y (fun i => ⟨ps i, kk i, false, 0, 0, 0⟩) :=
    ⟨hl, fun i => h.ds.mem.fits i, ho, fun s _ => .inl rfl, fun i hi => ⟨hk i hi, by simp, fun h => by simp at h, fun h => by simp at h, fun h => by simp at h⟩, by
      rw [h2, grN_cN, cN_zero (p := fun i => fly ⟨ps i, kk i, false, 0, 0, 0⟩) (n := n) fun i _ => by simp [fly]]
      rfl, by
      rw [cN_zero (p := fun i => (⟨ps i, kk i, false, 0, 0, 0⟩ : Sh).gw) (n := n) fun i _ => rfl, cN_zero (p := fun s => decide (K.hw Y s ≠ K.hw Y s)) (n := K.S) fun s _ => by simp]⟩
  have hown := h.own
  obtain ⟨_, ⟨hv, hn⟩ | ⟨g, cap, cur, hv, hg, h3, h4, h5, h6, h7⟩⟩ := hown
  · subst hn
    refine ⟨none, 0, R, hv, fun h => by omega, Nat.le_refl _, ⟨h.ds, hinv, fun i hi => by omega, fun i hi => by omega, fun i j hi => by omega, fun i hi => by omega, fun i hi => by omega, h.was, lt_of_block (show wr.heap[R]? = _ from h.was), ⟨hb.2.2.2.2.2.1, hb.2.2.2.2.2.2⟩, ⟨hb.2.2.2.2.2.1, hb.2.2.2.2.2.2⟩⟩⟩
  · refine ⟨some ⟨g, 0, none⟩, cap, g, hv, fun _ => rfl, h4, ⟨h.ds, hinv, fun i hi => h.shd i hi, fun i hi => ?_, fun i j hi hj hij => h.apart i j hi hj hij, fun i hi => rfl, fun i hi => ?_, h.was, lt_of_block h3, by omega, ⟨hb.2.2.2.2.2.1, hb.2.2.2.2.2.2⟩⟩⟩
    · have hf := h.far i hi
      have hr := h.row_ne (g := g) (by rw [hv]; rfl) (h.shd i hi)
      refine ⟨?_, ?_, hr, ?_, ?_⟩ <;> simp <;> omega
    · have e1 : cur[i]? = some (.pointer (some ⟨ps i, 0, none⟩)) := by
        rw [← Array.getElem?_toList]
        have := ptrs_get ps hi
        rw [← h7, List.getElem?_take] at this
        split at this
        · exact this
        · cases this
      simp [World.cell?, h3, e1]
end Go.Proofs.YtpfcpkkillklkaaDoor
