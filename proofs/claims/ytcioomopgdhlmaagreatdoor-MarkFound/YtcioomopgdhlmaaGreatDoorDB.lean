/- How many slots are gray: package shade's count and the law's. -/
import Derived.Test.YtcioomopgdhlmaaGreatDoorDA
import Derived.Test.YtcioomopgdhlmaaGreatDoorPRmem
import Derived.BigRegion
namespace Go.Proofs.YtcioomopgdhlmaaGreatDoor
open Go.RowKit
open Mm (IsMem MS touched Only)
open Hh (WT okW whiteH wordOf Hr blackN usedK)

/-- Words that are only read. -/
def RdW (w : World) (b off : Nat) (X : List Nat) : Prop := b < w.heap.size ∧ ∀ i, i < X.length → w.cell? ⟨b, off + i, none⟩ = some (.int .u64 (X.getD i 0 : Nat))
theorem RdW.below {w w' : World} {b off : Nat} {X : List Nat} (h : RdW w b off X) (k : Below w.heap.size w w') : RdW w' b off X :=
  ⟨Nat.lt_of_lt_of_le h.1 k.size, fun i hi => (k.cell (p := ⟨b, off + i, none⟩) h.1).trans (h.2 i hi)⟩
theorem RdW.of_words {w : World} {R : Nat} {X : List Nat} (h : Mm.IsWords w R X) : RdW w R 0 X := ⟨lt_of_block (show w.heap[R]? = _ from h), fun i hi => by rw [Nat.zero_add]; exact Mm.words_at h i hi⟩
theorem RdW.atW {w : World} {b off : Nat} {X : List Nat} (h : RdW w b off X) {i W : Nat} (hi : i < X.length) (hW : X.getD i 0 = W) : w.cell? ⟨b, off + i, none⟩ = some (.int .u64 (W : Nat)) := hW ▸ h.2 i hi

def grN (K : Cf) (X : List Nat) : Nat → Nat
  | 0 => 0
  | n + 1 => grN K X n + (if grayW (X.getD (K.hd n) 0) then 1 else 0)
theorem grN_le (K : Cf) (X : List Nat) : ∀ n, grN K X n ≤ n
  | 0 => Nat.le_refl _
  | n + 1 => by
    have := grN_le K X n
    show grN K X n + (if grayW (X.getD (K.hd n) 0) then 1 else 0) ≤ n + 1
    split <;> omega

theorem gray_word {K M : Nat} (g : Bool) {A N S : Nat} (h : Hr K M A N S) : (okW (wordOf K M g.toNat A N S) && g) = grayW (wordOf K M g.toNat A N S) := by
  obtain ⟨_, _, p2, _⟩ := Hh.word_parts g h
  unfold grayW
  rw [p2]
  cases g <;> rfl
theorem un_any {W : Nat} (hW : W < 18446744073709551616) (w : World) (hw : WT w) :
    Calls Tryz.prog 50 #[.int .u64 (W : Nat)] w fun r w' => (∃ (k m : Int) (g : Bool) (a n s : Int), r = .returned (.tuple #[.agg #[.int .i64 k, .int .i64 m, .bool g, .int .i64 a, .int .i64 n, .int .i64 s], .bool (okW W)]) ∧ (okW W && g) = grayW W) ∧ Below w.heap.size w w' := by
  cases hok : okW W
  · exact (Hh.unpack_bad hW hok w hw).mono fun r w' ⟨hr, hb⟩ => ⟨⟨_, _, _, _, _, _, hr, by unfold grayW; rw [hok]; rfl⟩, hb⟩
  · obtain ⟨K, M, g, A, N, S, h1, rfl⟩ := Hh.okW_parts hW hok
    exact (Hh.unpack_word g h1 w hw).mono fun r w' ⟨hr, hb⟩ => ⟨⟨_, _, g, _, _, _, hr, by rw [← hok]; exact gray_word g h1⟩, hb⟩
theorem run_any {W : Nat} (hW : W < 18446744073709551616) (w : World) :
    Calls Tryz.prog 28 #[.int .u64 (W : Nat)] w fun r w' => (∃ (k m : Int) (g : Bool) (a n s : Int), r = .returned (.tuple #[.agg #[.int .i64 k, .int .i64 m, .bool g, .int .i64 a, .int .i64 n, .int .i64 s], .bool (okW W)]) ∧ (okW W && g) = grayW W) ∧ Below w.heap.size w w' := by
  cases hok : okW W
  · exact (Hh.runpack_bad hW hok w).mono fun r w' ⟨hr, hb⟩ => ⟨⟨_, _, _, _, _, _, hr, by unfold grayW; rw [hok]; rfl⟩, hb⟩
  · obtain ⟨K, M, g, A, N, S, h1, rfl⟩ := Hh.okW_parts hW hok
    exact (Hh.runpack_word g h1 w).mono fun r w' ⟨hr, hb⟩ => ⟨⟨_, _, g, _, _, _, hr, by rw [← hok]; exact gray_word g h1⟩, hb⟩

/-- Where the reference has a slot's header. -/
theorem rheader_any {K : Cf} (hK : K.Ok) (s : Nat) (hs : s < K.S) (w : World) :
    Calls Tryz.prog 38 #[.agg K.cs, .agg #[.string ⟨#[104, 101, 97, 100, 101, 114]⟩, .int .i64 (s : Nat), .int .i64 0]] w fun e w' => e = .returned (.int .i64 (K.hd s : Nat)) ∧ Below w.heap.size w w' :=
  at_yes hK.r hK.b hK.b8 8 s 0 (K.hd s) (by omega) (K.hd_lt hs) (wat_header K.C K.D K.B s) w

/-- What is known of the world while slots are counted. -/
structure Gr (w wr : World) (K : Cf) (b off : Nat) (X : List Nat) : Prop where
  rd : RdW wr b off X
  cfg : IsCfg wr w.heap.size K.S K.a K.C K.D K.g K.k
  bel : Below w.heap.size w wr
  wt : WT wr
theorem Gr.below {w wr w' : World} {K : Cf} {b off : Nat} {X : List Nat} (h : Gr w wr K b off X) (k : Below wr.heap.size wr w') : Gr w w' K b off X := ⟨h.rd.below k, h.cfg.below k, seq_below h.bel k, h.wt.below k⟩

end Go.Proofs.YtcioomopgdhlmaaGreatDoor
/- A memory whose headers are given: the contract of filled. -/
namespace Go.Proofs.YtcioomopgdhlmaaGreatDoor
open Go.RowKit
open Mm (IsMem IsWords MS touched Only zeroMS)
open Hh (WT okW whiteH wordOf Hr blackN usedK rightH IsHd)

/-- A header's six parts. -/
structure Hv where
  k : Int
  m : Int
  g : Bool
  a : Int
  n : Int
  s : Int
/-- Headers in a slice that is only read. -/
def RdH (w : World) (ad : Option Addr) (n : Nat) (H : Nat → Hv) : Prop := ∀ i, i < n → ∃ b off, ad = some ⟨b, off, none⟩ ∧ b < w.heap.size ∧
  w.cell? ⟨b, off + i * 6, none⟩ = some (.int .i64 (H i).k) ∧ w.cell? ⟨b, off + i * 6 + 1, none⟩ = some (.int .i64 (H i).m) ∧ w.cell? ⟨b, off + i * 6 + 2, none⟩ = some (.bool (H i).g) ∧ w.cell? ⟨b, off + i * 6 + 3, none⟩ = some (.int .i64 (H i).a) ∧ w.cell? ⟨b, off + i * 6 + 4, none⟩ = some (.int .i64 (H i).n) ∧ w.cell? ⟨b, off + i * 6 + 5, none⟩ = some (.int .i64 (H i).s)

structure Fl (w wr : World) (K : Cf) (R : Nat) (X : List Nat) : Prop where
  ws : IsWords wr R X
  cfg : IsCfg wr w.heap.size K.S K.a K.C K.D K.g K.k
  bel : Below w.heap.size w wr
  wt : WT wr
theorem Fl.below {w wr w' : World} {K : Cf} {R : Nat} {X : List Nat} (h : Fl w wr K R X) (b : Below wr.heap.size wr w') : Fl w w' K R X := ⟨words_below h.ws b, h.cfg.below b, seq_below h.bel b, h.wt.below b⟩
theorem Fl.set {w wr : World} {K : Cf} {R : Nat} {X : List Nat} (h : Fl w wr K R X) (hR : w.heap.size + 1 ≤ R) (i W : Nat) : Fl w (wr.setCell ⟨R, i, none⟩ (.int .u64 (W : Nat))) K R (X.set i W) :=
  ⟨words_stored h.ws i W _ rfl, cfg_stored h.cfg (by omega) _, h.bel.setCell (p := ⟨R, i, none⟩) (by omega : w.heap.size ≤ R) _, Hh.WT.set h.wt (by omega) _⟩
theorem hd_apart {w : World} {P R i : Nat} {k m : Int} {g : Bool} {a n s : Int} (h : IsHd w P k m g a n s) (hne : P ≠ R) (v : Value) : IsHd (w.setCell ⟨R, i, none⟩ v) P k m g a n s :=
  (Below.heap_setCell w ⟨R, i, none⟩ v P hne).trans h
theorem hd_c1 {w : World} {P : Nat} {k m : Int} {g : Bool} {a n s : Int} (h : IsHd w P k m g a n s) (g' : Bool) : (w.setCell ⟨P, 2, none⟩ (.bool g')).drew.cell? ⟨P, 1, none⟩ = some (.int .i64 m) :=
  (Hh.IsHd.below (w := w.setCell ⟨P, 2, none⟩ (.bool g')) (show IsHd _ P k m g' a n s from Hh.heap_setCell_at h _) (Below.refl _ _).drew).cells.2.1
theorem hd_c2 {w : World} {P : Nat} {k m : Int} {g : Bool} {a n s : Int} (h : IsHd w P k m g a n s) (g' : Bool) : (w.setCell ⟨P, 2, none⟩ (.bool g')).drew.cell? ⟨P, 2, none⟩ = some (.bool g') :=
  (Hh.IsHd.below (w := w.setCell ⟨P, 2, none⟩ (.bool g')) (show IsHd _ P k m g' a n s from Hh.heap_setCell_at h _) (Below.refl _ _).drew).cells.2.2.1
theorem fl_lt {X : List Nat} {B : Nat} (h : ∀ x ∈ X, x < B + 1) (i : Nat) : X.getD i 0 < B + 1 := by
  by_cases hi : i < X.length
  · have e : X.getD i 0 = X[i] := by simp [hi]
    rw [e]; exact h _ (List.getElem_mem hi)
  · have e : X.getD i 0 = 0 := by simp [hi]
    rw [e]; omega
theorem fl_set {X : List Nat} {B i W : Nat} (h : ∀ x ∈ X, x < B) (hW : W < B) : ∀ x ∈ X.set i W, x < B := fun x hx => by
  rcases List.mem_or_eq_of_mem_set hx with h1 | h1
  · exact h x h1
  · rw [h1]; exact hW
theorem right_nat {k m a n s : Int} (h : rightH k m a n s = true) : ∃ Kk Mk A Nn Sk : Nat, Hr Kk Mk A Nn Sk ∧ k = (Kk : Int) ∧ m = (Mk : Int) ∧ a = (A : Int) ∧ n = (Nn : Int) ∧ s = (Sk : Int) := by
  unfold Hh.rightH at h
  simp only [decide_eq_true_eq] at h
  obtain ⟨h1, h2, h3, h4, h5, h6, h7, h8, h9⟩ := h
  refine ⟨k.toNat, m.toNat, a.toNat, n.toNat, s.toNat, ⟨by omega, by omega, by omega, by omega, by omega⟩, by omega, by omega, by omega, by omega, by omega⟩
theorem gray_marked {Kk Mk A Nn Sk e : Nat} (g : Bool) (h : Hr Kk Mk A Nn Sk) (hg : g = true → (Mk : Int) = ((blackN e : Nat) : Int)) : grayW (wordOf Kk Mk g.toNat A Nn Sk) = true → canS (wordOf Kk Mk g.toNat A Nn Sk) e = false := by
  obtain ⟨_, p1, p2, _⟩ := Hh.word_parts g h
  unfold grayW canS
  rw [p1, p2]
  intro hx
  simp only [Bool.and_eq_true, decide_eq_true_eq] at hx
  have hgt : g = true := by cases g <;> simp_all
  have := hg hgt
  unfold Hh.whiteH
  rw [Hh.black_nat, this]
  simp
theorem gray_set {K : Cf} {X : List Nat} {e j W : Nat} (h : ∀ s, s < K.S → grayW (X.getD (K.hd s) 0) = true → canS (X.getD (K.hd s) 0) e = false) (hW : grayW W = true → canS W e = false) : ∀ s, s < K.S → grayW ((X.set (K.hd j) W).getD (K.hd s) 0) = true → canS ((X.set (K.hd j) W).getD (K.hd s) 0) e = false := fun s hs => by
  rw [getD_set]
  split
  · exact hW
  · exact h s hs
theorem gray_set2 {K : Cf} {X : List Nat} {e W : Nat} (h : ∀ s, s < K.S → grayW (X.getD (K.hd s) 0) = true → canS (X.getD (K.hd s) 0) e = false) : ∀ s, s < K.S → grayW ((X.set 2 W).getD (K.hd s) 0) = true → canS ((X.set 2 W).getD (K.hd s) 0) e = false := fun s hs => by
  rw [getD_set, if_neg (by have := K.hd_4 s; omega)]
  exact h s hs
theorem grN_set2 (K : Cf) (X : List Nat) (W : Nat) : ∀ n, grN K (X.set 2 W) n = grN K X n
  | 0 => rfl
  | n + 1 => by
    show grN K (X.set 2 W) n + (if grayW ((X.set 2 W).getD (K.hd n) 0) then 1 else 0) = grN K X n + (if grayW (X.getD (K.hd n) 0) then 1 else 0)
    have e : (X.set 2 W).getD (K.hd n) 0 = X.getD (K.hd n) 0 := by rw [getD_set, if_neg (by have := K.hd_4 n; omega)]
    rw [grN_set2 K X W n, e]
theorem mem_hd (K : Cf) {s : Nat} (hs : s < K.S) : (memX K.C K.D K.B K.N (K.S - 1)).getD (K.hd s) 0 = 0 := by
  have h1 := K.hd_lt hs
  have h4 := K.hd_4 s
  have e : memK K.C K.D K.B (K.S - 1) (K.hd s) = 0 := by
    unfold memK
    rw [show wat K.C K.D K.B (K.hd s) = (8, s, 0) from wat_header K.C K.D K.B s]
    rw [if_neg (by omega), if_neg (by simp)]
  simp [memX, h1, e]

end Go.Proofs.YtcioomopgdhlmaaGreatDoor
/- What lives and what is marked, of any word. -/
namespace Go.Proofs.YtcioomopgdhlmaaGreatDoor
open Go.RowKit
open Hh (WT okW whiteH wordOf Hr blackN usedK)

def livW (W : Nat) : Bool := okW W && usedK ((W % 8 : Nat) : Int)
def mkdW (W e : Nat) : Bool := livW W && decide (((W / 8 % 2 : Nat) : Int) = ((blackN e : Nat) : Int))
theorem can_liv (W e : Nat) : canS W e = (livW W && !mkdW W e) := by
  unfold canS mkdW livW Hh.whiteH
  rw [Hh.black_nat]
  cases okW W <;> cases usedK ((W % 8 : Nat) : Int) <;> simp
theorem lives_any {W : Nat} (hW : W < 18446744073709551616) (w : World) : Calls Tryz.prog 33 #[.int .u64 (W : Nat)] w fun r w' => r = .returned (.bool (livW W)) ∧ Below w.heap.size w w' := by
  cases hok : okW W
  · have e : livW W = false := by unfold livW; rw [hok]; rfl
    rw [e]
    exact Hh.lives_bad hW hok w
  · obtain ⟨K, M, g, A, N, S, h1, rfl⟩ := Hh.okW_parts hW hok
    have e : livW (wordOf K M g.toNat A N S) = usedK K := by unfold livW; rw [hok, (Hh.word_parts g h1).1]; rfl
    rw [e]
    exact Hh.lives_word g h1 w
theorem marked_any {W e : Nat} (hW : W < 18446744073709551616) (he : e < 18446744073709551616) (w : World) : Calls Tryz.prog 30 #[.int .u64 (W : Nat), .int .u64 (e : Nat)] w fun r w' => r = .returned (.bool (mkdW W e)) ∧ Below w.heap.size w w' := by
  cases hok : okW W
  · have q := Hh.rmarked_as W e _ _ _ _ _ _ _ _ he (fun w => Hh.runpack_bad hW hok w) (fun w => Hh.lives_bad hW hok w) w
    have e : mkdW W e = false := by unfold mkdW livW; rw [hok]; rfl
    rw [e]
    exact q
  · obtain ⟨K, M, g, A, N, S, h1, rfl⟩ := Hh.okW_parts hW hok
    have q := Hh.rmarked_as _ e _ _ _ _ _ _ _ _ he (fun w => Hh.runpack_word g h1 w) (fun w => Hh.lives_word g h1 w) w
    have e : mkdW (wordOf K M g.toNat A N S) e = (usedK K && decide ((M : Int) = ((blackN e : Nat) : Int))) := by
      obtain ⟨p0, p1, _⟩ := Hh.word_parts g h1
      unfold mkdW livW; rw [hok, p0, p1]; rfl
    rw [e]
    exact q
end Go.Proofs.YtcioomopgdhlmaaGreatDoor
