/- All hands in the heap. -/
import Derived.Test.YtnegdabcjnhpdaaDoorGV
import Derived.Test.YtnegdabcjnhpdaaDoorGU
import Derived.Test.YtnegdabcjnhpdaaDoorGM
import Derived.OwnWalk
import Derived.ProofKit
import Derived.Deep.Slices
namespace Go.Proofs.YtnegdabcjnhpdaaDoor
open Go.RowKit
open Mm (IsMem MS touched Only)
open Hh (WT)
theorem HnAt.same {w : World} {lo Wb H M G B : Nat} {C C' : Array Value} {o : Nat} {own : List Nat} {h : Hn} (x : HnAt w lo Wb H M G B C o own h) (hs : ∀ k, k < 10 → C'[o + k]? = C[o + k]?) (hz : C'.size = C.size) : HnAt w lo Wb H M G B C' o own h := by
  have h0 : C'[o]? = C[o]? := by simpa using hs 0 (by omega)
  have h1 := hs 1 (by omega)
  have h2 := hs 2 (by omega)
  have h3 := hs 3 (by omega)
  have h4 := hs 4 (by omega)
  have h5 := hs 5 (by omega)
  have h6 := hs 6 (by omega)
  have h7 := hs 7 (by omega)
  have h8 := hs 8 (by omega)
  have h9 := hs 9 (by omega)
  refine ⟨by rw [hz]; exact x.sz, ?_, fun e => ?_, fun a m e => ?_, x.own⟩
  · rw [h0]; exact x.acts
  · rw [h1, h5, h6]; exact x.idle e
  · obtain ⟨A, q1, q2, q3, q4⟩ := x.busy a m e
    refine ⟨A, by rw [h1]; exact q1, q2, ?_, q4⟩
    cases m with
    | read r =>
      unfold McAt at q3 ⊢
      rw [h5, h6, h2]; exact q3
    | lay l =>
      unfold McAt at q3 ⊢
      rw [h5, h6, h3]; exact q3
    | turn t =>
      unfold McAt at q3 ⊢
      rw [h5, h6, h4]; exact q3
    | see s n v l tp =>
      unfold McAt at q3 ⊢
      rw [h6, h7, h9, h5, h8]; exact q3
theorem HnAt.lt {w : World} {lo Wb H M G B : Nat} {C : Array Value} {o : Nat} {own : List Nat} {h : Hn} (x : HnAt w lo Wb H M G B C o own h) : ∀ i ∈ own, i < w.heap.size := fun i hi => by
  cases hc : h.cur with
  | none => rw [(x.idle hc).2.2.2] at hi; cases hi
  | some z =>
    obtain ⟨a, m⟩ := z
    obtain ⟨A, q1, q2, q3, q4⟩ := x.busy a m hc
    cases m with
    | read r =>
      obtain ⟨_, _, P, c, _, e, hP, _⟩ := q3
      rw [e] at hi; simp at hi; subst hi
      exact lt_of_block hP
    | lay l =>
      obtain ⟨_, _, P, c, _, e, hP, _, _, hsh⟩ := q3
      rw [e] at hi
      rcases List.mem_cons.1 hi with rfl | hi
      · exact lt_of_block hP
      · obtain ⟨cc, t, e2, _⟩ := La.qs_cells hsh hi
        exact lt_of_block e2
    | turn t =>
      obtain ⟨_, _, P, c, _, e, hP, _⟩ := q3
      rw [e] at hi; simp at hi; subst hi
      exact lt_of_block hP
    | see s n v l tp =>
      obtain ⟨_, _, _, _, _, _, _, P, c, vr, _, hP, _, _, _, hr, e⟩ := q3
      rw [e] at hi
      rcases List.mem_cons.1 hi with rfl | hi
      · exact lt_of_block hP
      · exact (hr.lt i (by simpa using hi)).2
structure Ph (w wr : World) (lo Wb H M G B n : Nat) (u : Wl) (hs : List Hn) : Prop where
  x : ∃ (v : Value) (C : Array Value) (owns : List (List Nat)), Wt wr lo Wb M G B u v ∧ wr.heap[H]? = some (.cells C 36 (0, 0)) ∧ C.size = n * 10 ∧ owns.length = n ∧ (∀ (i : Nat) (h : Hn) (own : List Nat), hs[i]? = some h → owns[i]? = some own → HnAt wr lo Wb H M G B C (i * 10) own h) ∧ (∀ (i j : Nat) (own own' : List Nat), i ≠ j → owns[i]? = some own → owns[j]? = some own' → ∀ x ∈ own, x ∉ own')
  hl : hs.length = n
  ne : H ≠ M ∧ H ≠ G ∧ H ≠ B ∧ H ≠ Wb
  loH : lo ≤ H
  hlo : w.heap.size ≤ lo
  bel : Below w.heap.size w wr
section
variable {w wr w' : World} {lo Wb H M G B n : Nat} {u : Wl} {hs : List Hn}
theorem Ph.below (h : Ph w wr lo Wb H M G B n u hs) (b : Below wr.heap.size wr w') : Ph w w' lo Wb H M G B n u hs := by
  obtain ⟨v, C, owns, t, hb, hz, ho, hn, hd⟩ := h.x
  exact ⟨⟨v, C, owns, t.below b, (b.block H (lt_of_block hb)).trans hb, hz, ho, fun i x own q1 q2 => (hn i x own q1 q2).keep (L := []) (Cd.of_below b) (by simp) (by simp), hd⟩, h.hl, h.ne, h.loH, h.hlo, seq_below h.bel b⟩
/-- The time is set. -/
theorem Ph.time (h : Ph w wr lo Wb H M G B n u hs) {now : Int} (hnw : -4611686018427387904 < now ∧ now < 4611686018427387904) : Ph w (wr.setCell ⟨B, 0, none⟩ (.int .i64 now)) lo Wb H M G B n (u.at now) hs := by
  obtain ⟨v, C, owns, t, hb, hz, ho, hn, hd⟩ := h.x
  obtain ⟨t1, c⟩ := t.time hnw
  have hl := t.gw.lo1
  have hB : ∀ j ∈ [B], lo ≤ j := fun j hj => by simp at hj; omega
  have := h.hlo
  refine ⟨⟨v, C, owns, t1, c.at hb (by simp; exact h.ne.2.2.1) (by decide), hz, ho, fun i x own q1 q2 => (hn i x own q1 q2).keep c hB (fun j hj => by simp; exact ((hn i x own q1 q2).own j hj).2.2.2.2.2), hd⟩, h.hl, h.ne, h.loH, h.hlo, c.below h.bel (fun j hj => by have := hB j hj; omega) h.hlo (Nat.le_refl _)⟩
theorem Ph.step (p : Ph w wr lo Wb H M G B n u hs) {i : Nat} {h : Hn} (hi : hs[i]? = some h) (hf : h.fit) (hT : u.g.T + 3 < 4611686018427387904) (hdn : u.done.length + 4 < 1000000) (hnx : 5 ≤ u.next ∧ u.next ≤ 40) :
    Calls Tryd.prog 9 #[.pointer (some ⟨H, i * 10, none⟩), .pointer (some ⟨Wb, 0, none⟩)] wr fun e w' => e = .returned (.tuple #[]) ∧ ∃ Q, Ph w w' lo Wb H M G B n (h.step B Q u).2 (hs.set i (h.step B Q u).1) := by
  obtain ⟨v, C, owns, t, hb, hz, ho, hn, hd⟩ := p.x
  have hil : i < hs.length := (List.getElem?_eq_some_iff.1 hi).1
  have hin : i < n := by have := p.hl; omega
  obtain ⟨own, hown⟩ : ∃ own, owns[i]? = some own := ⟨_, List.getElem?_eq_some_iff.2 ⟨by omega, rfl⟩⟩
  have hni := hn i h own hi hown
  refine (step_any t hb hni hf p.ne p.loH hT hdn hnx).mono fun e w' ⟨e1, Q, C', own', v', s1, s2, s3, s4, s5, s6⟩ => ⟨e1, Q, ⟨v', C', owns.set i own', s1, s2, by rw [s3.size]; exact hz, by simp [ho], fun j x o q1 q2 => ?_, fun j k o o' hne q1 q2 => ?_⟩, by simp [p.hl], p.ne, p.loH, p.hlo, ?_⟩
  · have hl := t.gw.lo1
    have hw := t.lo
    have hp := p.loH
    have hL : ∀ j ∈ Wb :: H :: M :: G :: B :: own, lo ≤ j := fun j hj => by
      simp only [List.mem_cons] at hj
      rcases hj with rfl | rfl | rfl | rfl | rfl | hj
      · omega
      · omega
      · omega
      · omega
      · omega
      · exact (hni.own j hj).1
    rw [List.getElem?_set] at q1 q2
    by_cases e : i = j
    · subst e
      rw [if_pos rfl, if_pos hil] at q1
      rw [if_pos rfl, if_pos (by omega)] at q2
      cases q1
      cases q2
      exact s4
    · rw [if_neg e] at q1 q2
      have hj := hn j x o q1 q2
      refine (hj.keep s5 hL (fun y hy hm => ?_)).same (fun k hk => s3.out _ (by omega)) s3.size
      have hyo := hj.own y hy
      simp only [List.mem_cons] at hm
      rcases hm with k | k | k | k | k | k
      · omega
      · omega
      · omega
      · omega
      · omega
      · exact hd j i o own (Ne.symm e) q2 hown y hy k
  · rw [List.getElem?_set] at q1 q2
    have new : ∀ (j : Nat) (o : List Nat), j ≠ i → owns[j]? = some o → ∀ y ∈ o, y ∉ own' := fun j o e q y hy hm => by
      have hjl : j < n := by have := (List.getElem?_eq_some_iff.1 q).1; omega
      obtain ⟨x, hx⟩ : ∃ x, hs[j]? = some x := ⟨_, List.getElem?_eq_some_iff.2 ⟨by have := p.hl; omega, rfl⟩⟩
      have hj := hn j x o hx q
      rcases s6 y hm with k | k
      · exact hd j i o own e q hown y hy k
      · have := hj.lt y hy; omega
    by_cases e : i = j
    · subst e
      rw [if_pos rfl, if_pos (by omega)] at q1
      rw [if_neg hne] at q2
      cases q1
      exact fun y hy hm => new k o' (Ne.symm hne) q2 y hm hy
    · rw [if_neg e] at q1
      by_cases e2 : i = k
      · subst e2
        rw [if_pos rfl, if_pos (by omega)] at q2
        cases q2
        exact new j o (Ne.symm e) q1
      · rw [if_neg e2] at q2
        exact hd j k o o' hne q1 q2
  · have := p.hlo
    refine s5.below p.bel (fun j hj => ?_) p.hlo (Nat.le_refl _)
    have hl := t.gw.lo1
    have hw := t.lo
    have hp := p.loH
    simp only [List.mem_cons] at hj
    rcases hj with rfl | rfl | rfl | rfl | rfl | hj
    · omega
    · omega
    · omega
    · omega
    · omega
    · have := (hni.own j hj).1; omega
theorem Ph.cellB (p : Ph w wr lo Wb H M G B n u hs) : wr.cell? ⟨Wb, 7, none⟩ = some (.pointer (some ⟨B, 0, none⟩)) ∧ (∃ z, wr.cell? ⟨B, 0, none⟩ = some (.int .i64 z)) ∧ wr.frozen? ⟨B, 0, none⟩ = false ∧ wr.cell? ⟨Wb, 10, none⟩ = some (.bool u.bad) := by
  obtain ⟨v, C, owns, h1, _⟩ := p.x
  obtain ⟨mb, mt, hk⟩ := h1.gw.book
  exact ⟨Blk.cell (t := 47) h1.blk rfl, ⟨_, hk.cells.1⟩, hk.free 0, Blk.cell (t := 47) h1.blk rfl⟩
theorem Ph.cells (p : Ph w wr lo Wb H M G B n u hs) {i : Nat} {h : Hn} (hi : hs[i]? = some h) : (∃ ad cap, wr.cell? ⟨H, i * 10, none⟩ = some (.slice ad h.acts.length cap)) ∧ (h.cur = none → wr.cell? ⟨H, i * 10 + 1, none⟩ = some (.pointer none)) ∧ (h.cur ≠ none → ∃ A, wr.cell? ⟨H, i * 10 + 1, none⟩ = some (.pointer (some ⟨A, 0, none⟩))) := by
  obtain ⟨v, C, owns, t, hb, hz, ho, hn, hd⟩ := p.x
  have hil : i < hs.length := (List.getElem?_eq_some_iff.1 hi).1
  obtain ⟨own, hown⟩ : ∃ own, owns[i]? = some own := ⟨_, List.getElem?_eq_some_iff.2 ⟨by have := p.hl; omega, rfl⟩⟩
  have hni := hn i h own hi hown
  obtain ⟨va, hva, ad, cap, e, _⟩ := hni.acts
  refine ⟨⟨ad, cap, by rw [← e]; exact Blk.cell (t := 36) hb hva⟩, fun hc => Blk.cell (t := 36) hb (hni.idle hc).1, fun hc => ?_⟩
  cases hx : h.cur with
  | none => exact absurd hx hc
  | some z =>
    obtain ⟨a, m⟩ := z
    obtain ⟨A, q1, _⟩ := hni.busy a m hx
    exact ⟨A, Blk.cell (t := 36) hb q1⟩
/-- All hands, in the heap and by themselves, ahead of the time k. -/
structure Pz (w wr : World) (lo Wb H M G B n k : Nat) (bs : Nat → Nat) (hs : List Hn) : Prop where
  x : ∃ (u : Wl) (ch : Nat → List Lrw) (fi : Nat → Option Nat) (m : Int), m < (k : Int) ∧ Ph w wr lo Wb H M G B n u hs ∧ Pw u hs ch fi m bs ∧ (0 ≤ u.g.T ∧ u.g.T ≤ 2 * k) ∧ u.done.length ≤ 4 * k
theorem Pz.step {k : Nat} {bs : Nat → Nat} (p : Pz w wr lo Wb H M G B n k bs hs) {i : Nat} (hi : i < n) (hk : k < 100000) :
    Calls Tryd.prog 9 #[.pointer (some ⟨H, i * 10, none⟩), .pointer (some ⟨Wb, 0, none⟩)] (wr.setCell ⟨B, 0, none⟩ (.int .i64 (k : Nat))) fun e w' => e = .returned (.tuple #[]) ∧ ∃ h', Pz w w' lo Wb H M G B n (k + 1) (fun j => if j = i then bs i - 1 else bs j) (hs.set i h') := by
  obtain ⟨u, ch, fi, m, hm, ph, pw, hT, hd⟩ := p.x
  obtain ⟨h, hh⟩ : ∃ h, hs[i]? = some h := ⟨_, List.getElem?_eq_some_iff.2 ⟨by have := ph.hl; omega, rfl⟩⟩
  have ph1 := ph.time (now := (k : Int)) (by omega)
  have hf : h.fit := fun a mc hc => by
    cases mc with
    | turn t => exact pw.turns hh hc
    | read r => trivial
    | lay l => trivial
    | see s n v l tp => trivial
  refine (ph1.step hh hf (by show u.g.T + 3 < _; omega) (by show u.done.length + 4 < _; omega) pw.sh.hnx).mono fun e w' ⟨e1, Q, ph2⟩ => ?_
  obtain ⟨q1, q2, ch', fi', pw'⟩ := pw.step hh hm (by omega) B Q
  exact ⟨e1, _, ⟨_, ch', fi', k, by omega, ph2, pw', by omega, by omega⟩⟩
theorem Pz.wait {k : Nat} {bs : Nat → Nat} (p : Pz w wr lo Wb H M G B n k bs hs) (hk : k < 100000) : Pz w (wr.setCell ⟨B, 0, none⟩ (.int .i64 (k : Nat))) lo Wb H M G B n (k + 1) bs hs := by
  obtain ⟨u, ch, fi, m, hm, ph, pw, hT, hd⟩ := p.x
  exact ⟨_, ch, fi, m, by omega, ph.time (by omega), pw.wait (Int.le_refl _) _, by show 0 ≤ u.g.T ∧ u.g.T ≤ 2 * ((k + 1 : Nat) : Int); omega, by show u.done.length ≤ _; omega⟩
theorem Pz.mono {k : Nat} {bs bs' : Nat → Nat} (p : Pz w wr lo Wb H M G B n k bs hs) (h : ∀ i, bs i ≤ bs' i) : Pz w wr lo Wb H M G B n k bs' hs := by
  obtain ⟨u, ch, fi, m, hm, ph, pw, hT, hd⟩ := p.x
  exact ⟨u, ch, fi, m, hm, ph, pw.mono h, hT, hd⟩
theorem Pz.cellB {k : Nat} {bs : Nat → Nat} (p : Pz w wr lo Wb H M G B n k bs hs) : wr.cell? ⟨Wb, 7, none⟩ = some (.pointer (some ⟨B, 0, none⟩)) ∧ (∃ z, wr.cell? ⟨B, 0, none⟩ = some (.int .i64 z)) ∧ wr.frozen? ⟨B, 0, none⟩ = false ∧ wr.cell? ⟨Wb, 10, none⟩ = some (.bool false) := by
  obtain ⟨u, ch, fi, m, hm, ph, pw, hT, hd⟩ := p.x
  have := ph.cellB
  rw [pw.bad] at this
  exact this
theorem Pz.len {k : Nat} {bs : Nat → Nat} (p : Pz w wr lo Wb H M G B n k bs hs) : hs.length = n := by
  obtain ⟨u, ch, fi, m, hm, ph, _⟩ := p.x
  exact ph.hl
theorem Pz.bel {k : Nat} {bs : Nat → Nat} (p : Pz w wr lo Wb H M G B n k bs hs) : Below w.heap.size w wr := by
  obtain ⟨u, ch, fi, m, hm, ph, _⟩ := p.x
  exact ph.bel
theorem Pz.cells {k : Nat} {bs : Nat → Nat} (p : Pz w wr lo Wb H M G B n k bs hs) {i : Nat} {h : Hn} (hi : hs[i]? = some h) : (∃ ad cap, wr.cell? ⟨H, i * 10, none⟩ = some (.slice ad h.acts.length cap)) ∧ (h.cur = none → wr.cell? ⟨H, i * 10 + 1, none⟩ = some (.pointer none)) ∧ (h.cur ≠ none → ∃ A, wr.cell? ⟨H, i * 10 + 1, none⟩ = some (.pointer (some ⟨A, 0, none⟩))) := by
  obtain ⟨u, ch, fi, m, hm, ph, _⟩ := p.x
  exact ph.cells hi
theorem Pz.over {k : Nat} {bs : Nat → Nat} (p : Pz w wr lo Wb H M G B n k bs hs) {i : Nat} {h : Hn} (hi : hs[i]? = some h) (hb : bs i = 0) : h.over := by
  obtain ⟨u, ch, fi, m, hm, ph, pw, _⟩ := p.x
  exact pw.over hi hb
/-- In the end all is right. -/
theorem Pz.right {k : Nat} {bs : Nat → Nat} (p : Pz w wr lo Wb H M G B n k bs hs) (hk : k < 100000) (ho : ∀ (i : Nat) (h : Hn), hs[i]? = some h → h.over) : Calls Tryd.prog 10 #[.pointer (some ⟨Wb, 0, none⟩)] wr fun e w' => e = .returned (.bool true) ∧ Below wr.heap.size wr w' := by
  obtain ⟨u, ch, fi, m, hm, ph, pw, hT, hd⟩ := p.x
  obtain ⟨v, C, owns, t, _⟩ := ph.x
  have := right_any2 t (fun i hi => by
    obtain ⟨a, b⟩ := pw.kinds hi
    exact ⟨a, b.1, by have := b.2.1; omega, by have := b.2.2; omega⟩) (by omega)
  rw [pw.right ho] at this
  exact this
end
end Go.Proofs.YtnegdabcjnhpdaaDoor
/- All hands, as they are made. -/
namespace Go.Proofs.YtnegdabcjnhpdaaDoor
open Go.RowKit
open Mm (IsMem MS touched Only)
open Hh (WT)
def hnZ : Array Value := #[.slice none 0 0, .pointer none, .pointer none, .pointer none, .pointer none, .pointer none, .int .i64 0, .int .u64 0, .slice none 0 0, .int .i64 0]
theorem inf36 : (Tryd.prog.info? 36).map (fun i => (i.zero, i.size, i.bytes)) = some (some (.agg hnZ), 10, 112) := by kernel_rfl
theorem hnZ_cells : (Value.agg hnZ).cells = hnZ := by kernel_rfl
theorem made_at {n k j : Nat} (hk : k < n) (hj : j < 10) : (madeCells hnZ (n * 10))[k * 10 + j]? = some hnZ[j]! := by
  have h : k * 10 + j < n * 10 := by omega
  unfold madeCells
  rw [Array.getElem?_map, Array.getElem?_range, if_pos h]
  have e : (k * 10 + j) % hnZ.size = j := by show (k * 10 + j) % 10 = j; omega
  simp only [Option.map_some, e]
theorem made_hands {w : World} {base g n : Nat} {z : Value} (hz : z.cells = hnZ) (h : w.ownsRow base 36 10 (.slice (some ⟨g, 0, none⟩) n n) n (madeCells z.cells (n * 10)).toList) : w.heap[g]? = some (.cells (madeCells hnZ (n * 10)) 36 (0, 0)) := by
  rcases h.2 with ⟨e, _⟩ | ⟨r, cap, cur, e, _, hg, _, _, hs, ht⟩
  · cases e
  · cases e
    have hc : cur = madeCells hnZ (n * 10) := by
      rw [hz] at ht
      have hl : cur.toList.length ≤ n * 10 := by simp [hs]
      rw [List.take_of_length_le hl] at ht
      exact Array.toList_inj.1 ht
    rw [hc] at hg
    exact hg
/-- The hands get their acts. -/
structure L1 (w wr : World) (lo Wb H M G B n i : Nat) (va : Nat → Value) : Prop where
  t : Wt wr lo Wb M G B ⟨g0, 5, [], false⟩ (.slice none 0 0)
  c : ∃ C, wr.heap[H]? = some (.cells C 36 (0, 0)) ∧ C.size = n * 10 ∧ (∀ k, k < n → C[k * 10 + 1]? = some (.pointer none) ∧ C[k * 10 + 5]? = some (.pointer none) ∧ C[k * 10 + 6]? = some (.int .i64 0)) ∧ (∀ k, k < n → ∃ x, C[k * 10]? = some x) ∧ ∀ k, k < i → C[k * 10]? = some (va k)
  ne : H ≠ M ∧ H ≠ G ∧ H ≠ B ∧ H ≠ Wb
  loH : lo ≤ H
  hlo : w.heap.size ≤ lo
  bel : Below w.heap.size w wr
theorem L1.start {w w1 w2 w3 : World} {Wb M G B n : Nat} {va : Nat → Value} (b1 : Below w.heap.size w w1) (bg : Begun w1 w2 Wb M G B) (b2 : Below w2.heap.size w2 w3) (hH : w3.heap[w2.heap.size]? = some (.cells (madeCells hnZ (n * 10)) 36 (0, 0))) : L1 w w3 w1.heap.size Wb w2.heap.size M G B n 0 va := by
  have t0 : Wt w2 w1.heap.size Wb M G B ⟨g0, 5, [], false⟩ (.slice none 0 0) := ⟨by rw [KC_N]; exact bg.gw, bg.blk, ⟨rfl, .inl ⟨rfl, rfl⟩⟩, bg.ne, bg.lo⟩
  have hM := t0.gw.mem.lt
  have hB : B < w2.heap.size := by obtain ⟨_, _, x⟩ := t0.gw.book; exact x.lt
  have hW := lt_of_block t0.blk
  have hl := t0.gw.lo1
  refine ⟨t0.below b2, ⟨_, hH, by rw [size_madeCells], fun k hk => ⟨made_at hk (by omega), made_at hk (by omega), made_at hk (by omega)⟩, fun k hk => ⟨_, made_at (j := 0) hk (by omega)⟩, fun k hk => by omega⟩, by omega, by omega, b1.size, seq_below b1 (seq_below bg.bel b2)⟩
theorem L1.put {w wr : World} {lo Wb H M G B n i : Nat} {va : Nat → Value} (h : L1 w wr lo Wb H M G B n i va) (hi : i < n) : L1 w (wr.setCell ⟨H, i * 10, none⟩ (va i)) lo Wb H M G B n (i + 1) va := by
  obtain ⟨C, hb, hz, h1, h2, h3⟩ := h.c
  have ix : Ix wr wr lo Wb H M G B [] ⟨g0, 5, [], false⟩ (.slice none 0 0) C := ⟨h.t, hb, Cd.refl _ _ _, h.ne, by simp, h.loH⟩
  have ix2 := ix.setH (i * 10) (va i)
  refine ⟨ix2.t, ⟨_, ix2.hb, by simp [hz], fun k hk => ?_, fun k hk => ?_, fun k hk => ?_⟩, h.ne, h.loH, h.hlo, h.bel.setCell (p := ⟨H, i * 10, none⟩) (by have := h.loH; have := h.hlo; show w.heap.size ≤ H; omega) _⟩
  · rw [get_set_ne (by omega), get_set_ne (by omega), get_set_ne (by omega)]
    exact h1 k hk
  · by_cases e : k = i
    · subst e
      exact ⟨_, get_set (by omega)⟩
    · obtain ⟨x, hx⟩ := h2 k hk
      exact ⟨x, by rw [get_set_ne (by omega)]; exact hx⟩
  · by_cases e : k = i
    · subst e
      exact get_set (by omega)
    · rw [get_set_ne (by omega)]
      exact h3 k (by omega)
theorem L1.cell {w wr : World} {lo Wb H M G B n i k : Nat} {va : Nat → Value} (h : L1 w wr lo Wb H M G B n i va) (hk : k < n) : (∃ x, wr.cell? ⟨H, k * 10, none⟩ = some x) ∧ wr.frozen? ⟨H, k * 10, none⟩ = false := by
  obtain ⟨C, hb, hz, h1, h2, h3⟩ := h.c
  obtain ⟨x, hx⟩ := h2 k hk
  exact ⟨⟨x, Blk.cell (t := 36) hb hx⟩, Blk.free (t := 36) hb _⟩
/-- Acts that came in, row by row. -/
def RdAA (w : World) (ad : Option Addr) (len : Nat) (va : Nat → Value) (F : Nat → List Ac) : Prop := ∀ i, i < len → ∃ b off, ad = some ⟨b, off, none⟩ ∧ b < w.heap.size ∧ w.cell? ⟨b, off + i, none⟩ = some (va i) ∧ ActsAt w w.heap.size (va i) (F i)
def RdI (w : World) (ad : Option Addr) (n : Nat) (Z : Nat → Int) : Prop := ∀ i, i < n → ∃ b off, ad = some ⟨b, off, none⟩ ∧ b < w.heap.size ∧ w.cell? ⟨b, off + i, none⟩ = some (.int .i64 (Z i))
theorem ActsAt.lift {w wr : World} {lo : Nat} {va : Value} {acts : List Ac} (h : ActsAt w w.heap.size va acts) (b : Below w.heap.size w wr) (hlo : w.heap.size ≤ lo) : ActsAt wr lo va acts := by
  obtain ⟨ad, cap, h1, h2, h3, h4⟩ := h
  refine ⟨ad, cap, h1, h2, h3, fun i hi => ?_⟩
  obtain ⟨bb, off, k1, k2, a, k3, q0, q1, q2, q3⟩ := h4 i hi
  have hb : bb < w.heap.size := by
    rcases k2 with ⟨k, _⟩ | ⟨cc, f, k⟩
    · exact k
    · exact lt_of_block k
  refine ⟨bb, off, k1, .inl ⟨by omega, by have := b.size; omega⟩, a, k3, (b.cell (p := ⟨bb, _, none⟩) hb).trans q0, (b.cell (p := ⟨bb, _, none⟩) hb).trans q1, (b.cell (p := ⟨bb, _, none⟩) hb).trans q2, (b.cell (p := ⟨bb, _, none⟩) hb).trans q3⟩
theorem L1.pz {w wr : World} {lo Wb H M G B n : Nat} {va : Nat → Value} {F : Nat → List Ac} (h : L1 w wr lo Wb H M G B n n va) (hF : ∀ k, k < n → ActsAt w w.heap.size (va k) (F k) ∧ (F k).length ≤ 12) : Pz w wr lo Wb H M G B n 0 (fun _ => 3996) ((List.range n).map fun k => ⟨F k, none⟩) := by
  obtain ⟨C, hb, hz, h1, h2, h3⟩ := h.c
  have hget : ∀ (i : Nat) (x : Hn), ((List.range n).map fun k => (⟨F k, none⟩ : Hn))[i]? = some x → i < n ∧ x = ⟨F i, none⟩ := fun i x hx => by
    have hi : i < n := by
      have := (List.getElem?_eq_some_iff.1 hx).1
      simpa using this
    refine ⟨hi, ?_⟩
    rw [List.getElem?_map, List.getElem?_range hi] at hx
    simpa using hx.symm
  refine ⟨⟨g0, 5, [], false⟩, fun _ => [], fun _ => none, -1, by omega, ⟨⟨_, C, List.replicate n [], h.t, hb, hz, by simp, fun i x own q1 q2 => ?_, fun i j own own' _ q1 _ x hx => ?_⟩, by simp, h.ne, h.loH, h.hlo, h.bel⟩, pw0 (fun i x hx => ?_), ⟨Int.le_refl _, Int.le_refl _⟩, Nat.le_refl _⟩
  · obtain ⟨hi, rfl⟩ := hget i x q1
    obtain rfl : own = [] := by
      have := List.getElem?_eq_some_iff.1 q2
      obtain ⟨_, e⟩ := this
      simpa using e.symm
    exact ⟨by omega, ⟨va i, h3 i hi, (hF i hi).1.lift h.bel h.hlo⟩, fun _ => ⟨(h1 i hi).1, (h1 i hi).2.1, (h1 i hi).2.2, rfl⟩, (fun a m e => by cases e), fun j hj => by cases hj⟩
  · obtain rfl : own = [] := by
      have := List.getElem?_eq_some_iff.1 q1
      obtain ⟨_, e⟩ := this
      simpa using e.symm
    cases hx
  · obtain ⟨hi, rfl⟩ := hget i x hx
    exact ⟨rfl, (hF i hi).2⟩
end Go.Proofs.YtnegdabcjnhpdaaDoor
/- The law of plays: the walk. -/
namespace Go.Proofs.YtnegdabcjnhpdaaDoor
open Go.RowKit
open Mm (IsMem MS touched Only)
open Hh (WT)
theorem hs_at {hs : List Hn} {n i : Nat} (hl : hs.length = n) (hi : i < n) : ∃ h, hs[i]? = some h := ⟨_, List.getElem?_eq_some_iff.2 ⟨by omega, rfl⟩⟩
theorem Pz.next {w w' : World} {lo Wb H M G B n k r i : Nat} {hs : List Hn} {h' : Hn} (p : Pz w w' lo Wb H M G B n k (fun j => if j = i then (if i < i then 3996 - r - 1 else 3996 - r) - 1 else if j < i then 3996 - r - 1 else 3996 - r) (hs.set i h')) : Pz w w' lo Wb H M G B n k (fun j => if j < i + 1 then 3996 - r - 1 else 3996 - r) (hs.set i h') :=
  p.mono fun j => by
    show (if j = i then (if i < i then 3996 - r - 1 else 3996 - r) - 1 else if j < i then 3996 - r - 1 else 3996 - r) ≤ if j < i + 1 then 3996 - r - 1 else 3996 - r
    rw [if_neg (Nat.lt_irrefl i)]
    split <;> split <;> (try split) <;> omega
set_option maxRecDepth 100000 in
set_option maxHeartbeats 16000000 in
theorem plays_law (ad0 : Option Addr) (len0 cap0 : Nat) (va : Nat → Value) (F : Nat → List Ac) (ad1 : Option Addr) (len1 cap1 : Nat) (Z : Nat → Int) {w : World} (hF : RdAA w ad0 len0 va F) (hZ : RdI w ad1 len1 Z) (hw : WT w) :
    Calls Tryd.prog 3 #[.slice ad0 len0 cap0, .slice ad1 len1 cap1] w fun e w' => e = .returned (.bool true) ∧ Below w.heap.size w w' := by
  have cA := fun (wr : World) (h : Below w.heap.size w wr) => awake_any (hw.below h)
  have b0 := Below.refl w.heap.size w
  by_cases hl : 6 < len0
  · have hlI : (6 : Int) < (len0 : Int) := by omega
    go_enter Tryd.func3, Tryd.ntmps3
    go_wp2_with (go_at_call 7; refine (cA _ b0).mono ?_; rintro e w1 ⟨rfl, b1⟩)
    go_ret
    exact ⟨rfl, b1⟩
  · have hlI : ¬ (6 : Int) < (len0 : Int) := by omega
    have c8 := fun (wr : World) (h : Below w.heap.size w wr) => begin_any (hw.below h)
    obtain ⟨i36, hi36, hz36, hs36, hb36⟩ := info_parts inf36
    go_enter Tryd.func3, Tryd.ntmps3
    go_upto_region 6 with (first
      | (go_at_call 7; refine (cA _ b0).mono ?_; rintro e w1 ⟨rfl, b1⟩)
      | (go_at_call 8; refine (c8 _ b1).mono ?_; rintro e w2 ⟨Wb, M, G, B, rfl, bg⟩))
    have hc1 : i36.bytes * len0 ≤ 281474976710656 := by rw [hb36]; omega
    have hc2 : len0 ≤ maxLen := by unfold maxLen; omega
    go_upto_region 7 with (at_make; refine wpList_make_full _ rfl _ _ 27 rfl w2.heap.size 36 i36 (.agg hnZ) 10 Tryd.underlying27 hi36 hz36 hs36 .i64 .i64 len0 len0 len0 rfl rfl rfl rfl hc1 hc2 (Nat.le_refl _) ?_; intro w3 hown hgrow; have l1 := L1.start (va := va) b1 bg (Mm.of_grown hgrow) (made_hands hnZ_cells hown))
    clear hown hgrow bg b1 b0 c8 hi36 hz36 hs36 hb36 hc1 hc2
    generalize w1.heap.size = lo at *
    generalize w2.heap.size = H at *
    go_wp2
    go_loopw [7] (fun ii wr => ∃ i : Nat, i ≤ len0 ∧ ii = .int .i64 i ∧ L1 w wr lo Wb H M G B len0 i va ∧ ∀ k, k < i → (F k).length ≤ 12) (fun ii _ => len0 - (intOf ii).toNat)
    case atStart => exact ⟨0, Nat.zero_le _, rfl, l1, fun k hk => by omega⟩
    case round =>
      clear l1
      obtain ⟨i, hi, rfl, l1, h12⟩ := hrel
      by_cases hin : i < len0
      · have hiI : (i : Int) < (len0 : Int) := by omega
        obtain ⟨b, off, rfl, hbl, q0, hac⟩ := hF i hin
        obtain ⟨adi, capi, hva, -⟩ := hac
        rw [hva] at q0
        have q1 : wr.cell? ⟨b, off + i, none⟩ = some (.slice adi (F i).length capi) := (l1.bel.cell (p := ⟨b, off + i, none⟩) hbl).trans q0
        obtain ⟨⟨x0, hx0⟩, f0⟩ := l1.cell hin
        have l2 := l1.put hin
        rw [hva] at l2
        go_upto_region 11 with fail
        clear hx0 f0 q1 l1
        generalize wr.setCell ⟨H, i * 10, none⟩ (.slice adi (F i).length capi) = w4 at *
        have q1 : w4.cell? ⟨b, off + i, none⟩ = some (.slice adi (F i).length capi) := (l2.bel.cell (p := ⟨b, off + i, none⟩) hbl).trans q0
        by_cases h12i : (F i).length ≤ 12
        · have hI : ¬ (12 : Int) < ((F i).length : Int) := by omega
          go_wp2
          go_roundw
          case rel => exact ⟨i + 1, by omega, by go_num, l2, fun k hk => by
            by_cases e : k = i
            · rw [e]; exact h12i
            · exact h12 k (by omega)⟩
          case measure => simp [intOf]; omega
        · have hI : (12 : Int) < ((F i).length : Int) := by omega
          go_wp2_with (go_at_call 7; refine (cA _ l2.bel).mono ?_; rintro e w5 ⟨rfl, b5⟩)
          go_ret
          exact ⟨rfl, seq_below l2.bel b5⟩
      · have hiI : ¬ (i : Int) < (len0 : Int) := by omega
        obtain rfl : i = len0 := by omega
        have pz := l1.pz fun k hk => ⟨(hF k hk).elim fun _ h => h.elim fun _ h => h.2.2.2, h12 k hk⟩
        clear l1 h12
        generalize (List.range i).map (fun k => (⟨F k, none⟩ : Hn)) = hs0 at pz
        go_wp2
        go_loopw [8] (fun kk wr => ∃ (k : Nat) (hs : List Hn), k ≤ 400 ∧ kk = .int .i64 k ∧ Pz w wr lo Wb H M G B i k (fun _ => 3996) hs) (fun kk _ => 400 - (intOf kk).toNat)
        case atStart => exact ⟨0, hs0, by omega, rfl, pz⟩
        case round =>
          clear pz
          obtain ⟨k, hs, hk, rfl, pz⟩ := hrel
          by_cases hk1 : k < len1
          · have hk1I : (k : Int) < (len1 : Int) := by omega
            by_cases hk4 : k < 400
            · have hk4I : (k : Int) < 400 := by omega
              obtain ⟨b, off, rfl, hbl, q0⟩ := hZ k hk1
              obtain ⟨c7, ⟨z0, cz⟩, fz, -⟩ := pz.cellB
              have pw := pz.wait (by omega)
              go_upto_region 17 with fail
              clear c7 cz fz
              have q1 : (wr.setCell ⟨B, 0, none⟩ (.int .i64 (k : Nat))).cell? ⟨b, off + k, none⟩ = some (.int .i64 (Z k)) := (pw.bel.cell (p := ⟨b, off + k, none⟩) hbl).trans q0
              by_cases h0 : 0 ≤ Z k
              · obtain ⟨x, hx⟩ : ∃ x : Nat, Z k = (x : Int) := ⟨(Z k).toNat, by omega⟩
                rw [hx] at q1
                clear hx h0 q0
                by_cases hxi : x < i
                · have hxI : (x : Int) < (i : Int) := by omega
                  have c9 := pz.step hxi (by omega)
                  generalize wr.setCell ⟨B, 0, none⟩ (.int .i64 (k : Nat)) = w4 at *
                  clear pw pz
                  go_wp2_with (go_at_call 9; with_reducible refine c9.mono ?_; rintro e w5 ⟨rfl, h', pz⟩)
                  go_roundw
                  case rel => exact ⟨k + 1, _, by omega, by go_num, pz.mono fun j => by show (if j = x then 3996 - 1 else 3996) ≤ 3996; split <;> omega⟩
                  case measure => simp [intOf]; omega
                · have hxI : ¬ (x : Int) < (i : Int) := by omega
                  generalize wr.setCell ⟨B, 0, none⟩ (.int .i64 (k : Nat)) = w4 at *
                  clear pz
                  go_wp2
                  go_roundw
                  case rel => exact ⟨k + 1, _, by omega, by go_num, pw⟩
                  case measure => simp [intOf]; omega
              · generalize wr.setCell ⟨B, 0, none⟩ (.int .i64 (k : Nat)) = w4 at *
                clear pz
                go_wp2
                go_roundw
                case rel => exact ⟨k + 1, _, by omega, by go_num, pw⟩
                case measure => simp [intOf]; omega
            · have hk4I : ¬ (k : Int) < 400 := by omega
              go_wp2
              go_loopw [8, 9] (fun kk nn wr => ∃ (k r : Nat) (hs : List Hn), kk = .int .i64 k ∧ nn = .int .i64 r ∧ r ≤ 3996 ∧ k ≤ 400 + 6 * r ∧ Pz w wr lo Wb H M G B i k (fun _ => 3996 - r) hs) (fun _ nn _ => 4000 - (intOf nn).toNat)
              case atStart => exact ⟨k, 0, hs, rfl, rfl, by omega, by omega, pz⟩
              case round =>
                clear pz hk hk1 hk1I hk4 hk4I
                obtain ⟨k, r, hs, rfl, rfl, hr, hk, pz⟩ := hrel
                have hrI : (r : Int) < 4000 := by omega
                go_wp2
                go_loopw [8, 10, 11] (fun kk oo ii wr => ∃ (k j : Nat) (hs : List Hn) (ov : Bool), kk = .int .i64 k ∧ oo = .bool ov ∧ ii = .int .i64 j ∧ j ≤ i ∧ k ≤ 400 + 6 * r + j ∧ (ov = true ↔ ∀ (q : Nat) (h : Hn), q < j → hs[q]? = some h → h.over) ∧ Pz w wr lo Wb H M G B i k (fun q => if q < j then 3996 - r - 1 else 3996 - r) hs) (fun _ _ ii _ => i - (intOf ii).toNat)
                case atStart => exact ⟨k, 0, hs, true, rfl, rfl, rfl, by omega, by omega, ⟨fun _ q h hq => by omega, fun _ => rfl⟩, pz.mono fun q => by show 3996 - r ≤ if q < 0 then 3996 - r - 1 else 3996 - r; rw [if_neg (by omega)]; exact Nat.le_refl _⟩
                case round =>
                  clear pz hk
                  obtain ⟨k, j, hs, ov, rfl, rfl, rfl, hj, hk, hov, pz⟩ := hrel
                  by_cases hji : j < i
                  · have hjI : (j : Int) < (i : Int) := by omega
                    obtain ⟨c7, ⟨z0, cz⟩, fz, -⟩ := pz.cellB
                    have hlen := pz.len
                    have c9 := pz.step hji (by omega)
                    go_upto_region 27 with fail
                    clear c7 cz fz pz
                    generalize wr.setCell ⟨B, 0, none⟩ (.int .i64 (k : Nat)) = w4 at *
                    go_upto_region 29 with (go_at_call 9; with_reducible refine c9.mono ?_; rintro e w5 ⟨rfl, h', pz⟩)
                    clear c9
                    have pz := pz.next
                    have hat : (hs.set j h')[j]? = some h' := by rw [List.getElem?_set, if_pos rfl, if_pos (by omega)]
                    obtain ⟨⟨adj, capj, x0⟩, x1, x2⟩ := pz.cells hat
                    have hov2 : ∀ b : Bool, (b = true ↔ h'.over) → ((ov && b) = true ↔ ∀ (q : Nat) (h : Hn), q < j + 1 → (hs.set j h')[q]? = some h → h.over) := fun b hb => by
                      rw [Bool.and_eq_true, hov, hb]
                      refine ⟨fun ⟨a1, a2⟩ q h hq hx => ?_, fun a => ⟨fun q h hq hx => a q h (by omega) (by rw [List.getElem?_set, if_neg (by omega)]; exact hx), a j h' (by omega) hat⟩⟩
                      rw [List.getElem?_set] at hx
                      by_cases e : j = q
                      · rw [if_pos e, if_pos (by omega)] at hx
                        cases hx
                        exact a2
                      · rw [if_neg e] at hx
                        exact a1 q h (by omega) hx
                    cases hc : h'.cur with
                    | some y =>
                      obtain ⟨A, hA⟩ := x2 (by rw [hc]; simp)
                      have hno := hov2 false ⟨fun h => (by cases h), fun h => (by have := h.1; rw [hc] at this; cases this)⟩
                      rw [Bool.and_false] at hno
                      replace hno : Hid _ := hno
                      clear x1 x2 hov2 hc hov
                      cases ov
                      · go_wp2
                        go_roundw
                        case rel => exact ⟨k + 1, j + 1, _, false, by go_num, rfl, by go_num, by omega, by omega, hno.out, pz⟩
                        case measure => simp [intOf]; omega
                      · go_wp2
                        go_roundw
                        case rel => exact ⟨k + 1, j + 1, _, false, by go_num, rfl, by go_num, by omega, by omega, hno.out, pz⟩
                        case measure => simp [intOf]; omega
                    | none =>
                      have hA := x1 hc
                      clear x1 x2
                      cases hac : h'.acts with
                      | nil =>
                        rw [hac] at x0
                        have hno := hov2 true ⟨fun _ => ⟨hc, hac⟩, fun _ => rfl⟩
                        rw [Bool.and_true] at hno
                        replace hno : Hid _ := hno
                        clear hov2 hc hov hac
                        cases ov
                        · go_wp2
                          go_roundw
                          case rel => exact ⟨k + 1, j + 1, _, false, by go_num, rfl, by go_num, by omega, by omega, hno.out, pz⟩
                          case measure => simp [intOf]; omega
                        · go_wp2
                          go_roundw
                          case rel => exact ⟨k + 1, j + 1, _, true, by go_num, rfl, by go_num, by omega, by omega, hno.out, pz⟩
                          case measure => simp [intOf]; omega
                      | cons a0 rs =>
                        rw [hac] at x0
                        have hno := hov2 false ⟨fun h => (by cases h), fun h => (by have := h.2; rw [hac] at this; cases this)⟩
                        rw [Bool.and_false] at hno
                        replace hno : Hid _ := hno
                        clear hov2 hc hov hac
                        have hln : ¬ ((rs.length : Int) + 1 = 0) := by omega
                        cases ov
                        · go_wp2
                          go_roundw
                          case rel => exact ⟨k + 1, j + 1, _, false, by go_num, rfl, by go_num, by omega, by omega, hno.out, pz⟩
                          case measure => simp [intOf]; omega
                        · go_wp2
                          go_roundw
                          case rel => exact ⟨k + 1, j + 1, _, false, by go_num, rfl, by go_num, by omega, by omega, hno.out, pz⟩
                          case measure => simp [intOf]; omega
                  · have hjI : ¬ (j : Int) < (i : Int) := by omega
                    obtain rfl : j = i := by omega
                    cases ov
                    · have hr2 : r + 1 ≤ 3996 := by
                        apply Classical.byContradiction
                        intro hn
                        have hall : ∀ (q : Nat) (h : Hn), q < j → hs[q]? = some h → h.over := fun q h hq hx => pz.over hx (by show (if q < j then 3996 - r - 1 else 3996 - r) = 0; split <;> omega)
                        exact absurd (hov.2 hall) (by simp)
                      clear hov
                      go_wp2
                      go_roundw
                      case rel => exact ⟨k, r + 1, _, rfl, by go_num, hr2, by omega, ⟨by
                        obtain ⟨u, ch, fi, m, hm, ph, pw, hT, hd⟩ := pz.x
                        refine ⟨u, ch, fi, m, hm, ph, ⟨pw.sh, pw.dk, fun q h hq => ?_, pw.fr, pw.fl, pw.op, pw.bad⟩, hT, hd⟩
                        have hql : q < j := by have := (List.getElem?_eq_some_iff.1 hq).1; have := ph.hl; omega
                        rcases pw.hk q h hq with y | ⟨kk, y1, y2⟩
                        · exact .inl y
                        · refine .inr ⟨kk, y1, ?_⟩
                          simp only [hql, if_true] at y2
                          show _ ≤ 3996 - (r + 1)
                          omega⟩⟩
                      case measure => simp [intOf]; omega
                    · have hall := hov.1 rfl
                      have hlen := pz.len
                      have c10 := pz.right (by omega) fun q h hq => hall q h (by have := (List.getElem?_eq_some_iff.1 hq).1; omega) hq
                      obtain ⟨-, -, -, cb⟩ := pz.cellB
                      have bel := pz.bel
                      clear hov hall pz
                      go_wp2_with (first
                        | (go_at_call 10; with_reducible refine c10.mono ?_; rintro e w5 ⟨rfl, b5⟩)
                        | (go_at_call 7; refine (cA _ (seq_below bel b5)).mono ?_; rintro e w6 ⟨rfl, b6⟩))
                      go_ret
                      exact ⟨rfl, seq_below (seq_below bel b5) b6⟩
          · have hk1I : ¬ (k : Int) < (len1 : Int) := by omega
            go_wp2
            go_loopw [8, 9] (fun kk nn wr => ∃ (k r : Nat) (hs : List Hn), kk = .int .i64 k ∧ nn = .int .i64 r ∧ r ≤ 3996 ∧ k ≤ 400 + 6 * r ∧ Pz w wr lo Wb H M G B i k (fun _ => 3996 - r) hs) (fun _ nn _ => 4000 - (intOf nn).toNat)
            case atStart => exact ⟨k, 0, hs, rfl, rfl, by omega, by omega, pz⟩
            case round =>
              clear pz hk hk1 hk1I
              obtain ⟨k, r, hs, rfl, rfl, hr, hk, pz⟩ := hrel
              have hrI : (r : Int) < 4000 := by omega
              go_wp2
              go_loopw [8, 10, 11] (fun kk oo ii wr => ∃ (k j : Nat) (hs : List Hn) (ov : Bool), kk = .int .i64 k ∧ oo = .bool ov ∧ ii = .int .i64 j ∧ j ≤ i ∧ k ≤ 400 + 6 * r + j ∧ (ov = true ↔ ∀ (q : Nat) (h : Hn), q < j → hs[q]? = some h → h.over) ∧ Pz w wr lo Wb H M G B i k (fun q => if q < j then 3996 - r - 1 else 3996 - r) hs) (fun _ _ ii _ => i - (intOf ii).toNat)
              case atStart => exact ⟨k, 0, hs, true, rfl, rfl, rfl, by omega, by omega, ⟨fun _ q h hq => by omega, fun _ => rfl⟩, pz.mono fun q => by show 3996 - r ≤ if q < 0 then 3996 - r - 1 else 3996 - r; rw [if_neg (by omega)]; exact Nat.le_refl _⟩
              case round =>
                clear pz hk
                obtain ⟨k, j, hs, ov, rfl, rfl, rfl, hj, hk, hov, pz⟩ := hrel
                by_cases hji : j < i
                · have hjI : (j : Int) < (i : Int) := by omega
                  obtain ⟨c7, ⟨z0, cz⟩, fz, -⟩ := pz.cellB
                  have hlen := pz.len
                  have c9 := pz.step hji (by omega)
                  go_upto_region 27 with fail
                  clear c7 cz fz pz
                  generalize wr.setCell ⟨B, 0, none⟩ (.int .i64 (k : Nat)) = w4 at *
                  go_upto_region 29 with (go_at_call 9; with_reducible refine c9.mono ?_; rintro e w5 ⟨rfl, h', pz⟩)
                  clear c9
                  have pz := pz.next
                  have hat : (hs.set j h')[j]? = some h' := by rw [List.getElem?_set, if_pos rfl, if_pos (by omega)]
                  obtain ⟨⟨adj, capj, x0⟩, x1, x2⟩ := pz.cells hat
                  have hov2 : ∀ b : Bool, (b = true ↔ h'.over) → ((ov && b) = true ↔ ∀ (q : Nat) (h : Hn), q < j + 1 → (hs.set j h')[q]? = some h → h.over) := fun b hb => by
                    rw [Bool.and_eq_true, hov, hb]
                    refine ⟨fun ⟨a1, a2⟩ q h hq hx => ?_, fun a => ⟨fun q h hq hx => a q h (by omega) (by rw [List.getElem?_set, if_neg (by omega)]; exact hx), a j h' (by omega) hat⟩⟩
                    rw [List.getElem?_set] at hx
                    by_cases e : j = q
                    · rw [if_pos e, if_pos (by omega)] at hx
                      cases hx
                      exact a2
                    · rw [if_neg e] at hx
                      exact a1 q h (by omega) hx
                  cases hc : h'.cur with
                  | some y =>
                    obtain ⟨A, hA⟩ := x2 (by rw [hc]; simp)
                    have hno := hov2 false ⟨fun h => (by cases h), fun h => (by have := h.1; rw [hc] at this; cases this)⟩
                    rw [Bool.and_false] at hno
                    replace hno : Hid _ := hno
                    clear x1 x2 hov2 hc hov
                    cases ov
                    · go_wp2
                      go_roundw
                      case rel => exact ⟨k + 1, j + 1, _, false, by go_num, rfl, by go_num, by omega, by omega, hno.out, pz⟩
                      case measure => simp [intOf]; omega
                    · go_wp2
                      go_roundw
                      case rel => exact ⟨k + 1, j + 1, _, false, by go_num, rfl, by go_num, by omega, by omega, hno.out, pz⟩
                      case measure => simp [intOf]; omega
                  | none =>
                    have hA := x1 hc
                    clear x1 x2
                    cases hac : h'.acts with
                    | nil =>
                      rw [hac] at x0
                      have hno := hov2 true ⟨fun _ => ⟨hc, hac⟩, fun _ => rfl⟩
                      rw [Bool.and_true] at hno
                      replace hno : Hid _ := hno
                      clear hov2 hc hov hac
                      cases ov
                      · go_wp2
                        go_roundw
                        case rel => exact ⟨k + 1, j + 1, _, false, by go_num, rfl, by go_num, by omega, by omega, hno.out, pz⟩
                        case measure => simp [intOf]; omega
                      · go_wp2
                        go_roundw
                        case rel => exact ⟨k + 1, j + 1, _, true, by go_num, rfl, by go_num, by omega, by omega, hno.out, pz⟩
                        case measure => simp [intOf]; omega
                    | cons a0 rs =>
                      rw [hac] at x0
                      have hno := hov2 false ⟨fun h => (by cases h), fun h => (by have := h.2; rw [hac] at this; cases this)⟩
                      rw [Bool.and_false] at hno
                      replace hno : Hid _ := hno
                      clear hov2 hc hov hac
                      have hln : ¬ ((rs.length : Int) + 1 = 0) := by omega
                      cases ov
                      · go_wp2
                        go_roundw
                        case rel => exact ⟨k + 1, j + 1, _, false, by go_num, rfl, by go_num, by omega, by omega, hno.out, pz⟩
                        case measure => simp [intOf]; omega
                      · go_wp2
                        go_roundw
                        case rel => exact ⟨k + 1, j + 1, _, false, by go_num, rfl, by go_num, by omega, by omega, hno.out, pz⟩
                        case measure => simp [intOf]; omega
                · have hjI : ¬ (j : Int) < (i : Int) := by omega
                  obtain rfl : j = i := by omega
                  cases ov
                  · have hr2 : r + 1 ≤ 3996 := by
                      apply Classical.byContradiction
                      intro hn
                      have hall : ∀ (q : Nat) (h : Hn), q < j → hs[q]? = some h → h.over := fun q h hq hx => pz.over hx (by show (if q < j then 3996 - r - 1 else 3996 - r) = 0; split <;> omega)
                      exact absurd (hov.2 hall) (by simp)
                    clear hov
                    go_wp2
                    go_roundw
                    case rel => exact ⟨k, r + 1, _, rfl, by go_num, hr2, by omega, ⟨by
                      obtain ⟨u, ch, fi, m, hm, ph, pw, hT, hd⟩ := pz.x
                      refine ⟨u, ch, fi, m, hm, ph, ⟨pw.sh, pw.dk, fun q h hq => ?_, pw.fr, pw.fl, pw.op, pw.bad⟩, hT, hd⟩
                      have hql : q < j := by have := (List.getElem?_eq_some_iff.1 hq).1; have := ph.hl; omega
                      rcases pw.hk q h hq with y | ⟨kk, y1, y2⟩
                      · exact .inl y
                      · refine .inr ⟨kk, y1, ?_⟩
                        simp only [hql, if_true] at y2
                        show _ ≤ 3996 - (r + 1)
                        omega⟩⟩
                    case measure => simp [intOf]; omega
                  · have hall := hov.1 rfl
                    have hlen := pz.len
                    have c10 := pz.right (by omega) fun q h hq => hall q h (by have := (List.getElem?_eq_some_iff.1 hq).1; omega) hq
                    obtain ⟨-, -, -, cb⟩ := pz.cellB
                    have bel := pz.bel
                    clear hov hall pz
                    go_wp2_with (first
                      | (go_at_call 10; with_reducible refine c10.mono ?_; rintro e w5 ⟨rfl, b5⟩)
                      | (go_at_call 7; refine (cA _ (seq_below bel b5)).mono ?_; rintro e w6 ⟨rfl, b6⟩))
                    go_ret
                    exact ⟨rfl, seq_below (seq_below bel b5) b6⟩
end Go.Proofs.YtnegdabcjnhpdaaDoor
/- Acts and numbers that came in. -/
namespace Go.Proofs.YtnegdabcjnhpdaaDoor
open Go.ChangeShapes Go.WideShapes Go.ChangeAt Go.RowKit Go.Deep
open Hh (WT)
namespace Op2
theorem cellsI : Tryd.prog.cellsOf 3 = 1 := by kernel_rfl
theorem cellsA : Tryd.prog.cellsOf 84 = 4 := by kernel_rfl
theorem cellsS : Tryd.prog.cellsOf 28 = 1 := by kernel_rfl
theorem choose_lt' {α : Type} {len : Nat} (h0 : 0 < len) {p : Nat → α → Prop} (h : ∀ i, i < len → ∃ z, p i z) : ∃ Z : Nat → α, ∀ i, i < len → p i (Z i) := by
  obtain ⟨z0, _⟩ := h 0 h0
  exact ⟨fun i => if hi : i < len then Classical.choose (h i hi) else z0, fun i hi => by simp only [hi, dite_true]; exact Classical.choose_spec (h i hi)⟩
theorem lt_of_cell {w : World} {b o : Nat} {v : Value} (h : w.cell? ⟨b, o, none⟩ = some v) : b < w.heap.size := by
  unfold World.cell? at h
  simp only at h
  cases hb : w.heap[b]? with
  | none => rw [hb] at h; cases h
  | some x => exact lt_of_block hb
theorem add_none (b o i : Nat) : (⟨b, o, none⟩ : Addr).add i = ⟨b, o + i, none⟩ := by simp [Addr.add]
theorem open_ints {H : Type} {enc : TypeId × Value → H} {w : World} {ad : Option Addr} {len cap fuel : Nat} {x : DataW H × List MemPlace}
    (h : DataW.trod enc Tryd.prog w 0 (fun _ => true) true fuel 23 [.slice ad len cap] = some x) : ∃ Z : Nat → Int, RdI w ad len Z ∧ len ≤ maxLen := by
  rcases open_slice1 Tryd.underlying23 cellsI h with ⟨h0, _⟩ | ⟨a, len', cap', m, n, V, D, Pl, hcs, hb, hl, hm, hmm, hx, hV⟩
  · simp only [List.cons.injEq, Value.slice.injEq, and_true] at h0
    obtain ⟨rfl, rfl, rfl⟩ := h0
    exact ⟨fun _ => 0, fun i hi => by omega, Nat.zero_le _⟩
  · simp only [List.cons.injEq, Value.slice.injEq, and_true] at hcs
    obtain ⟨rfl, rfl, rfl⟩ := hcs
    simp only [if_true] at hmm
    subst hmm
    rcases Nat.eq_zero_or_pos len with h0 | h0
    · exact ⟨fun _ => 0, fun i hi => by omega, by omega⟩
    · obtain ⟨Z, hZ⟩ := choose_lt' h0 (p := fun i (z : Int) => V i = .int .i64 z) fun i hi => by
        obtain ⟨z, e, -, hw⟩ := DataW.trod_int Tryd.underlying3 (hV i (by omega)).2
        simp only [List.cons.injEq, and_true] at e
        exact ⟨z, e⟩
      obtain ⟨b, off, spot⟩ := a
      have hspot : spot = none := by simpa [Addr.add] using World.cell?_spot (hV 0 (by omega)).1
      subst hspot
      refine ⟨Z, fun i hi => ⟨b, off, rfl, ?_, ?_⟩, Nat.le_trans hl hm⟩
      · have hc := (hV i (by omega)).1
        rw [add_none] at hc
        exact lt_of_cell hc
      · have hc := (hV i (by omega)).1
        rw [add_none, hZ i hi] at hc
        exact hc
set_option maxRecDepth 100000 in
theorem open_acts {H : Type} {enc : TypeId × Value → H} {w : World} {v : Value} {fuel : Nat} {x : DataW H × List MemPlace}
    (h : DataW.trod enc Tryd.prog w 0 (fun _ => true) true fuel 28 [v] = some x) : ∃ acts, ActsAt w w.heap.size v acts := by
  rcases open_slice Tryd.underlying28 h with ⟨hcs, _⟩ | ⟨ad, len, cap, m, n, D, Pl, hcs, _, hl, hm, hmm, _, hx⟩
  · simp only [List.cons.injEq, and_true] at hcs
    subst hcs
    exact ⟨[], none, 0, rfl, Nat.le_refl _, by omega, fun i hi => by simp at hi⟩
  · simp only [List.cons.injEq, and_true] at hcs
    subst hcs
    simp only [if_true] at hmm
    subst hmm
    have hm2 : m < 9223372036854775808 := by unfold maxLen at hm; omega
    rcases Nat.eq_zero_or_pos len with h0 | h0
    · subst h0
      exact ⟨[], some ad, m, rfl, Nat.zero_le _, hm2, fun i hi => by simp at hi⟩
    · have each : ∀ i, i < len → ∃ q : Ac, w.cell? (ad.add (i * 4)) = some (.int .i64 q.kind) ∧ w.cell? (ad.add (i * 4 + 1)) = some (.int .i64 q.fld) ∧ w.cell? (ad.add (i * 4 + 2)) = some (.int .i64 q.val) ∧ w.cell? (ad.add (i * 4 + 3)) = some (.int .i64 q.expect) := by
        intro i hi
        obtain ⟨cs', h1, h2⟩ := hx i (by omega)
        rw [cellsA] at h1
        obtain ⟨_, hlen, hcell⟩ := World.cells?_some h1
        obtain ⟨xs, k, hk, hxy, _, hxl, hf⟩ := DataW.trod_struct Tryd.underlying84 h2
        match xs, hxl, cs', hlen with
        | [y0, y1, y2, y3], _, [v0, v1, v2, v3], _ =>
          have g0 := hf 0 _ rfl
          have g1 := hf 1 _ rfl
          have g2 := hf 2 _ rfl
          have g3 := hf 3 _ rfl
          simp [cellsI] at g0 g1 g2 g3
          obtain ⟨z0, f0, _, _⟩ := DataW.trod_int Tryd.underlying3 g0
          obtain ⟨z1, f1, _, _⟩ := DataW.trod_int Tryd.underlying3 g1
          obtain ⟨z2, f2, _, _⟩ := DataW.trod_int Tryd.underlying3 g2
          obtain ⟨z3, f3, _, _⟩ := DataW.trod_int Tryd.underlying3 g3
          simp at f0 f1 f2 f3
          subst f0 f1 f2 f3
          have e0 := hcell 0 (by omega)
          have e1 := hcell 1 (by omega)
          have e2 := hcell 2 (by omega)
          have e3 := hcell 3 (by omega)
          rw [Go.Deep.add_add] at e0 e1 e2 e3
          exact ⟨⟨z0, z1, z2, z3⟩, by simpa using e0, by simpa using e1, by simpa using e2, by simpa using e3⟩
      obtain ⟨q, hq⟩ := choose_lt' h0 each
      obtain ⟨b, off, spot⟩ := ad
      have hspot : spot = none := by simpa [Addr.add] using World.cell?_spot (hq 0 (by omega)).1
      subst hspot
      have hbl : b < w.heap.size := by
        have := (hq 0 (by omega)).1
        rw [add_none] at this
        exact lt_of_cell this
      refine ⟨(List.range len).map q, some ⟨b, off, none⟩, m, by simp, by simpa using hl, hm2, fun i hi => ?_⟩
      have hi' : i < len := by simpa using hi
      obtain ⟨k0, k1, k2, k3⟩ := hq i hi'
      rw [add_none] at k0 k1 k2 k3
      refine ⟨b, off, rfl, .inl ⟨hbl, hbl⟩, q i, ?_, k0, ?_, ?_, ?_⟩
      · rw [List.getElem?_map, List.getElem?_range hi']; rfl
      · rw [Nat.add_assoc]; exact k1
      · rw [Nat.add_assoc]; exact k2
      · rw [Nat.add_assoc]; exact k3
theorem open_actss {H : Type} {enc : TypeId × Value → H} {w : World} {ad : Option Addr} {len cap fuel : Nat} {x : DataW H × List MemPlace}
    (h : DataW.trod enc Tryd.prog w 0 (fun _ => true) true fuel 22 [.slice ad len cap] = some x) : ∃ Z : (Nat → Value) × (Nat → List Ac), RdAA w ad len Z.1 Z.2 := by
  rcases open_slice1 Tryd.underlying22 cellsS h with ⟨h0, _⟩ | ⟨a, len', cap', m, n, V, D, Pl, hcs, hb, hl, hm, hmm, hx, hV⟩
  · simp only [List.cons.injEq, Value.slice.injEq, and_true] at h0
    obtain ⟨rfl, rfl, rfl⟩ := h0
    exact ⟨⟨fun _ => .bool false, fun _ => []⟩, fun i hi => by omega⟩
  · simp only [List.cons.injEq, Value.slice.injEq, and_true] at hcs
    obtain ⟨rfl, rfl, rfl⟩ := hcs
    simp only [if_true] at hmm
    subst hmm
    rcases Nat.eq_zero_or_pos len with h0 | h0
    · exact ⟨⟨fun _ => .bool false, fun _ => []⟩, fun i hi => by omega⟩
    · obtain ⟨Z, hZ⟩ := choose_lt' h0 (p := fun i (z : List Ac) => ActsAt w w.heap.size (V i) z) fun i hi => open_acts (hV i (by omega)).2
      obtain ⟨b, off, spot⟩ := a
      have hspot : spot = none := by simpa [Addr.add] using World.cell?_spot (hV 0 (by omega)).1
      subst hspot
      refine ⟨⟨V, Z⟩, fun i hi => ⟨b, off, rfl, ?_, ?_, hZ i hi⟩⟩
      · have hc := (hV i (by omega)).1
        rw [add_none] at hc
        exact lt_of_cell hc
      · have hc := (hV i (by omega)).1
        rw [add_none] at hc
        exact hc
end Op2
theorem open_ints {H : Type} {enc : TypeId × Value → H} {w : World} {ad : Option Addr} {len cap fuel : Nat} {x : DataW H × List MemPlace} (h : DataW.trod enc Tryd.prog w 0 (fun _ => true) true fuel 23 [.slice ad len cap] = some x) : ∃ Z : Nat → Int, RdI w ad len Z ∧ len ≤ maxLen := Op2.open_ints h
theorem open_actss {H : Type} {enc : TypeId × Value → H} {w : World} {ad : Option Addr} {len cap : Nat} {x : DataW H × List MemPlace} (h : ∃ fuel, DataW.trod enc Tryd.prog w 0 (fun _ => true) true fuel 22 [.slice ad len cap] = some x) : ∃ Z : (Nat → Value) × (Nat → List Ac), RdAA w ad len Z.1 Z.2 := by
  obtain ⟨fuel, hf⟩ := h
  exact Op2.open_actss hf
theorem plays_row (ad0 : Option Addr) (len0 cap0 : Nat) (Z0 : (Nat → Value) × (Nat → List Ac)) (ad1 : Option Addr) (len1 cap1 : Nat) (Z1 : Nat → Int) (w : World) (hw : WT w) (hZ0 : RdAA w ad0 len0 Z0.1 Z0.2) (hZ1 : RdI w ad1 len1 Z1) : Calls Tryd.prog 3 #[.slice ad0 len0 cap0, .slice ad1 len1 cap1] w fun e w' => e = .returned (.bool true) ∧ Below w.heap.size w w' := plays_law ad0 len0 cap0 Z0.1 Z0.2 ad1 len1 cap1 Z1 hZ0 hZ1 hw
end Go.Proofs.YtnegdabcjnhpdaaDoor
