/- A hand stays as it is where others turn; the book's time is set. -/
import Derived.Test.YtnegdabcjnhpdaaGreatDoorGH
import Derived.Test.YtnegdabcjnhpdaaGreatDoorGI
import Derived.Test.YtnegdabcjnhpdaaGreatDoorGJ
namespace Go.Proofs.YtnegdabcjnhpdaaGreatDoor
open Go.RowKit
open Mm (IsMem MS touched Only)
open Hh (WT)

theorem own_cd {w w' : World} {lo : Nat} {L : List Nat} (c : Cd lo L w w') {v : Value} {n : Nat} {xs : List Value} (h : w.ownsRow lo 3 1 v n xs) (hv : ∀ i ∈ v.ownBlock.toList, i ∉ L) : w'.ownsRow lo 3 1 v n xs := by
  refine ⟨h.1, ?_⟩
  rcases h.2 with hn | ⟨g, cap, cur, rfl, hb', hgg, rest⟩
  · exact .inl hn
  · exact .inr ⟨g, cap, cur, rfl, hb', c.at hgg (hv g (by simp [Value.ownBlock])) (by decide), rest⟩
theorem HnAt.keep {w w' : World} {lo Wb H M G B : Nat} {L : List Nat} {C : Array Value} {o : Nat} {own : List Nat} {h : Hn} (x : HnAt w lo Wb H M G B C o own h) (c : Cd lo L w w') (hL : ∀ i ∈ L, lo ≤ i) (hd : ∀ i ∈ own, i ∉ L) : HnAt w' lo Wb H M G B C o own h := by
  obtain ⟨va, h0, ha⟩ := x.acts
  refine ⟨x.sz, ⟨va, h0, ha.cd c hL⟩, x.idle, fun a m hm => ?_, x.own⟩
  obtain ⟨A, h1, hA, hmc, hk⟩ := x.busy a m hm
  refine ⟨A, h1, (c.acts A _ _ hA).trans hA, ?_, hk⟩
  cases m with
  | read r =>
    obtain ⟨k1, k2, P, cc, k3, k4, k5, k6, k7⟩ := hmc
    exact ⟨k1, k2, P, cc, k3, k4, c.at k5 (hd P (by rw [k4]; simp)) (by decide), k6, k7⟩
  | lay l =>
    obtain ⟨k1, k2, P, cc, k3, k4, k5, k6, k7, k8⟩ := hmc
    refine ⟨k1, k2, P, cc, k3, k4, c.at k5 (hd P (by rw [k4]; simp)) (by decide), k6, k7, fun s hs => ?_⟩
    obtain ⟨q1, q2⟩ := k8 s hs
    exact ⟨c.at q1 (hd s.Q (by rw [k4]; simp [La.qs, hs])) (by decide), q2⟩
  | turn t =>
    obtain ⟨k1, k2, P, cc, k3, k4, k5, k6, k7⟩ := hmc
    exact ⟨k1, k2, P, cc, k3, k4, c.at k5 (hd P (by rw [k4]; simp)) (by decide), k6, k7⟩
  | see s n v l tp =>
    obtain ⟨k1, k2, k3, k4, k5, k6, k7, P, cc, vr, q1, q2, q3, q4, q5, q6, q7⟩ := hmc
    exact ⟨k1, k2, k3, k4, k5, k6, k7, P, cc, vr, q1, c.at q2 (hd P (by rw [q7]; simp)) (by decide), q3, q4, q5, own_cd c q6 (fun i hi => hd i (by rw [q7]; simp at hi ⊢; exact .inr hi)), q7⟩
def Wl.at (u : Wl) (now : Int) : Wl := { u with g := { u.g with k := { u.g.k with now := now } } }
/-- The time is set. -/
theorem Wt.time {w : World} {lo Wb M G B : Nat} {u : Wl} {v : Value} (h : Wt w lo Wb M G B u v) {now : Int} (hn : -4611686018427387904 < now ∧ now < 4611686018427387904) : Wt (w.setCell ⟨B, 0, none⟩ (.int .i64 now)) lo Wb M G B (u.at now) v ∧ Cd lo [B] w (w.setCell ⟨B, 0, none⟩ (.int .i64 now)) := by
  obtain ⟨mb, mt, hk⟩ := h.gw.book
  have c : Chg [B] w (w.setCell ⟨B, 0, none⟩ (.int .i64 now)) := (Chg.refl [B] w).setCell (by simp) _
  have hne := h.gw.ne
  have hl := h.gw.lo1
  have hw := h.ne
  have far : ∀ b : Nat, (∃ es cc, w.heap[b]? = some (Obj.map es cc)) → (w.setCell ⟨B, 0, none⟩ (.int .i64 now)).heap[b]? = w.heap[b]? := fun b ⟨es, cc, hb⟩ => c.block b (lt_of_block hb) (by simp; rintro rfl; rw [hk.head] at hb; cases hb)
  refine ⟨⟨⟨h.gw.mem.chg c (by simp; exact hne.1) (by simp; exact hne.2), ⟨mb, mt, ⟨?_, hk.pb.cm fun b e => far b (hk.pb.block e).2, hk.pt.cm fun b e => far b (hk.pt.block e).2, hk.ap⟩⟩, WT.chg h.gw.wt c (by simp; omega), h.gw.len, h.gw.tb, hn, hne, by have := c.size; omega⟩, c.at h.blk (by simp; exact hw.2.2), own_same h.row fun j cc f hj => c.block j (lt_of_block hj) (by simp; rintro rfl; rw [hk.head] at hj; cases hj), h.ne, h.lo⟩, Cd.of_chg c (fun i hi cc f => ?_)⟩
  · exact Mm.heap_setCell_at hk.head _
  · simp at hi
    subst hi
    rw [hk.head]; simp
end Go.Proofs.YtnegdabcjnhpdaaGreatDoor
/- The document's example, reckoned: no world in sight. -/
namespace Go.Proofs.YtnegdabcjnhpdaaGreatDoor
open Go.RowKit

/-- Where a Shade is made in this step, if one is, matters not. -/
def Hn.free (h : Hn) : Bool := match h.cur with
  | some (_, .lay l) => !(decide (l.pc = 2) && decide (l.n.rc ≠ -1))
  | _ => true
theorem La.step_free {l : La} (h : ¬ (l.pc = 2 ∧ l.n.rc ≠ -1)) (K : Cf) (B Q : Nat) (g : Gs) : l.step K B Q g = l.step K B 0 g := by
  unfold La.step
  split
  · rfl
  split
  · rfl
  split
  · rename_i h2
    have : ¬ (l.n.rc ≠ -1 ∧ Hh.fen l.e = true) := fun x => h ⟨h2, x.1⟩
    rw [if_neg this, if_neg this]
  · rfl
theorem beg_free (B Q : Nat) (a b : Ac) (u u' : Wl) : mstep B Q b (beg a u).1 u' = mstep B 0 b (beg a u).1 u' := by
  unfold beg
  split
  · rfl
  split
  · rfl
  · simp only [mstep]
    rw [La.step_free (by rintro ⟨h, _⟩; exact absurd (show (0 : Int) = 2 from h) (by decide))]
theorem Hn.step_free {h : Hn} (hf : h.free = true) (B Q : Nat) (u : Wl) : h.step B Q u = h.step B 0 u := by
  obtain ⟨acts, cur⟩ := h
  unfold Hn.step
  cases cur with
  | none =>
    cases acts with
    | nil => rfl
    | cons a r => simp only [beg_free B Q]
  | some x =>
    obtain ⟨a, m⟩ := x
    cases m with
    | lay l =>
      have : ¬ (l.pc = 2 ∧ l.n.rc ≠ -1) := by
        simp only [Hn.free, Bool.not_eq_true', Bool.and_eq_false_iff, decide_eq_false_iff_not] at hf
        omega
      simp only [mstep, La.step_free this KC B Q]
    | _ => rfl
def hn0 : Hn := ⟨[⟨1, 0, 3, 0⟩, ⟨0, 0, 0, 0⟩], none⟩
def awk (B : Nat) : Nat → Hn × Wl
  | 0 => (hn0, ⟨g0, 5, [], false⟩)
  | i + 1 => (awk B i).1.step B 0 ((awk B i).2.at (i : Int))
/-- A hand that neither turns the clock nor sees. -/
def Hn.lite (h : Hn) (next : Nat) : Bool := match h.cur with
  | some (_, .read _) => true
  | some (_, .lay _) => true
  | some _ => false
  | none => match h.acts with
    | [] => true
    | a :: _ => decide ((a.norm next).kind ≠ 3)
def okAt (x : Hn × Wl) : Bool := x.1.free && x.1.lite x.2.next && decide (0 ≤ x.2.g.T ∧ x.2.g.T < 1000) && decide (x.2.done.length < 1000) && decide (5 ≤ x.2.next ∧ x.2.next ≤ 40)
theorem awk_ok (B : Nat) : ((List.range 31).all fun i => okAt (awk B i)) = true := by kernel_rfl
theorem awk_done (B : Nat) : (awk B 30).2.done = [⟨4, false, ⟨1, 0, 2, -1⟩, 0, true⟩, ⟨6, true, ⟨0, 0, -1, -1⟩, 3, false⟩] := by kernel_rfl
theorem awk_right : rightF [⟨4, false, ⟨1, 0, 2, -1⟩, 0, true⟩, ⟨6, true, ⟨0, 0, -1, -1⟩, 3, false⟩] = true := by kernel_rfl
end Go.Proofs.YtnegdabcjnhpdaaGreatDoor
/- A step of a hand that neither turns the clock nor sees. -/
namespace Go.Proofs.YtnegdabcjnhpdaaGreatDoor
open Go.RowKit
open Mm (IsMem MS touched Only)
open Hh (WT)

theorem std_same {w : World} {lo Wb H M G B : Nat} {u : Wl} {v : Value} {C : Array Value} {o : Nat} {own : List Nat} {h : Hn} (ht : Wt w lo Wb M G B u v) (hb : w.heap[H]? = some (.cells C 58 (0, 0))) (hh : HnAt w lo Wb H M G B C o own h) : Std w w lo Wb H M G B C o own (h, u) :=
  ⟨C, own, v, ht, hb, Same.refl _ _ _, hh, Cd.refl _ _ _, fun _ hi => .inl hi⟩
set_option maxRecDepth 100000 in
set_option maxHeartbeats 4000000 in
theorem step_none {w : World} {lo Wb H M G B : Nat} {C : Array Value} {o : Nat} {own : List Nat} (hb : w.heap[H]? = some (.cells C 58 (0, 0))) (hh : HnAt w lo Wb H M G B C o own ⟨[], none⟩) :
    Calls Tryz.prog 13 #[.pointer (some ⟨H, o, none⟩), .pointer (some ⟨Wb, 0, none⟩)] w fun e w' => e = .returned (.tuple #[]) ∧ w = w' := by
  obtain ⟨va, hva, ad, cap, rfl, _⟩ := hh.acts
  have h0 : w.cell? ⟨H, o, none⟩ = some (.slice ad 0 cap) := Blk.cell (t := 58) hb hva
  have h1 : w.cell? ⟨H, o + 1, none⟩ = some (.pointer none) := Blk.cell (t := 58) hb (hh.idle rfl).1
  have cN := begins2_nil (p := .pointer (some ⟨Wb, 0, none⟩)) h0
  clear hh hva hb h0
  go_enter Tryz.func13, Tryz.ntmps13
  go_wp2_with (go_at_call 29; with_reducible refine cN.mono ?_; rintro e w1 ⟨rfl, rfl⟩)
  refine bodyPost_ret (results_none rfl _ _ _) rfl ?_
  exact ⟨rfl, rfl⟩
theorem step_lite {w : World} {lo Wb H M G B : Nat} {u : Wl} {v : Value} {C : Array Value} {o : Nat} {own : List Nat} {h : Hn}
    (ht : Wt w lo Wb M G B u v) (hb : w.heap[H]? = some (.cells C 58 (0, 0))) (hh : HnAt w lo Wb H M G B C o own h) (hne : H ≠ M ∧ H ≠ G ∧ H ≠ B ∧ H ≠ Wb) (hlo : lo ≤ H) (hT : u.g.T + 3 < 4611686018427387904) (hd : u.done.length < 1000000) (hn : 5 ≤ u.next ∧ u.next ≤ 40) (hl : h.lite u.next = true) :
    Calls Tryz.prog 13 #[.pointer (some ⟨H, o, none⟩), .pointer (some ⟨Wb, 0, none⟩)] w fun e w' => e = .returned (.tuple #[]) ∧ ∃ Q, Std w w' lo Wb H M G B C o own (h.step B Q u) := by
  obtain ⟨acts, cur⟩ := h
  cases cur with
  | none =>
    cases acts with
    | nil => exact (step_none hb hh).mono fun e w' ⟨h1, h2⟩ => ⟨h1, 0, by subst h2; exact std_same ht hb hh⟩
    | cons a r =>
      have hk : (a.norm u.next).kind ≠ 3 := by simpa [Hn.lite] using hl
      have hb3 := pk_b a.kind (n := 4) (by omega)
      have hk4 : (a.norm u.next).kind = 0 ∨ (a.norm u.next).kind = 1 ∨ (a.norm u.next).kind = 2 := by
        unfold Ac.norm at hk ⊢
        simp only at hk ⊢
        split at hk <;> simp_all <;> omega
      rcases hk4 with k | k
      · exact step_read_b ht hb hh hn k hne hlo hT hd
      · exact step_lay_b ht hb hh hn k hne hlo hT hd
  | some x =>
    obtain ⟨a, m⟩ := x
    cases m with
    | read r => exact step_read ht hb hh hne hlo hT hd
    | lay l => exact step_lay ht hb hh hne hlo hT hd
    | turn t => simp [Hn.lite] at hl
    | see s n v l tp => simp [Hn.lite] at hl
end Go.Proofs.YtnegdabcjnhpdaaGreatDoor
