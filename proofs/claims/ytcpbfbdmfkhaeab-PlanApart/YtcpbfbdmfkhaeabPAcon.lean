/- The law of places that are apart, walked. -/
import Derived.Test.YtcpbfbdmfkhaeabPFit
import Derived.Test.YtcpbfbdmfkhaeabPMark
import Derived.Test.YtcpbfbdmfkhaeabPSizes
namespace Go.Proofs.Ytcpbfbdmfkhaeab
open Go.RowKit
open Mm (Only of_grown)

/-- All that is known of the world in the loops: the counts, the config, and that nothing elder has changed. -/
structure Ap (w wr : World) (R : Nat) (s a c d g k : Int) (Y : List Nat) : Prop where
  ints : IsInts wr R Y
  cfg : IsCfg wr w.heap.size s a c d g k
  bel : Below w.heap.size w wr
  ne : w.heap.size < R

theorem Ap.below {w wr w1 : World} {R : Nat} {s a c d g k : Int} {Y : List Nat} (h : Ap w wr R s a c d g k Y) (b : Below wr.heap.size wr w1) : Ap w w1 R s a c d g k Y :=
  ⟨ints_below h.ints b, h.cfg.below b, h.bel.trans (b.mono h.bel.size), h.ne⟩
theorem Ap.only {w wr w1 : World} {R : Nat} {s a c d g k : Int} {Y Y' : List Nat} (h : Ap w wr R s a c d g k Y) (hi : IsInts w1 R Y') (o : Only R R wr w1) : Ap w w1 R s a c d g k Y' := by
  have hne := h.ne
  refine ⟨hi, ?_, o.below h.bel (Nat.le_of_lt hne) (Nat.le_of_lt hne) (Nat.le_refl _), hne⟩
  show w1.heap[w.heap.size]? = _
  rw [o.block _ h.cfg.lt (by omega) (by omega)]; exact h.cfg

/-- A mark, and what is known behind it. -/
theorem Ap.mark {w wr : World} {R : Nat} {s a c d g k : Int} {Y Y' : List Nat} (h : Ap w wr R s a c d g k Y) {N P : Nat} (hN : Y.length = N) (hP : P < N) (h0 : Y.getD P 0 = 0) (hs : Y.set P 1 = Y') :
    Calls Try.prog 28 #[.slice (some ⟨R, 0, none⟩) N N, .int .i64 (P : Nat)] wr fun e w' => e = .returned (.bool true) ∧ Ap w w' R s a c d g k Y' :=
  (mark_any h.ints P hN hP h0).mono fun _ _ ⟨h1, h2, h3⟩ => ⟨h1, h.only (hs ▸ h2) h3⟩

def firstK (N k : Nat) : List Nat := (List.range N).map fun p => if p < k then 1 else 0
theorem firstK_step (N k : Nat) : (firstK N k).set k 1 = firstK N (k + 1) := by
  apply List.ext_getElem
  · simp [firstK]
  · intro p h1 h2
    simp only [List.getElem_set, firstK, List.getElem_map, List.getElem_range]
    by_cases hp : k = p
    · rw [if_pos hp, if_pos (by omega)]
    · rw [if_neg hp]
      by_cases hl : p < k
      · rw [if_pos hl, if_pos (by omega)]
      · rw [if_neg hl, if_neg (by omega)]
theorem firstK_zero (N : Nat) : List.replicate N 0 = firstK N 0 := by
  apply List.ext_getElem
  · simp [firstK]
  · intro p h1 h2; simp [firstK]
theorem firstK_get (N k : Nat) (hk : k < N) : (firstK N k).getD k 0 = 0 := by simp [firstK, hk]

theorem pin_n {C D S : Nat} {a g k : Int} (hr : rightB S a C D g k = true) (u : Nat) (hu : u < C) (w : World) : Calls Try.prog 13 #[.agg (cs S a C D g k), .int .i64 (u : Nat)] w fun e w' => e = .returned (.int .i64 ((4 + u : Nat) : Int)) ∧ Below w.heap.size w w' := by
  have h := pin_yes (g := g) (k := k) (u : Int) hr (be_iff.2 (by omega)) w
  rw [show (4 : Int) + (u : Int) = ((4 + u : Nat) : Int) by omega] at h
  exact h
theorem view_n {C D S : Nat} {a g k : Int} (hr : rightB S a C D g k = true) (u : Nat) (hu : u < C) (w : World) : Calls Try.prog 16 #[.agg (cs S a C D g k), .int .i64 (u : Nat)] w fun e w' => e = .returned (.int .i64 ((4 + C + C * D + 2 * u : Nat) : Int)) ∧ Below w.heap.size w w' := by
  have h := view_yes (g := g) (k := k) (u : Int) hr (be_iff.2 (by omega)) w
  rw [show (4 : Int) + C + C * D + 2 * u = ((4 + C + C * D + 2 * u : Nat) : Int) by push_cast; rfl] at h
  exact h
theorem start_n {C D S : Nat} {a g k : Int} (hr : rightB S a C D g k = true) (u : Nat) (hu : u < C) (w : World) : Calls Try.prog 17 #[.agg (cs S a C D g k), .int .i64 (u : Nat)] w fun e w' => e = .returned (.int .i64 ((4 + C + C * D + 2 * u + 1 : Nat) : Int)) ∧ Below w.heap.size w w' := by
  have h := start_yes (g := g) (k := k) (u : Int) hr (be_iff.2 (by omega)) w
  rw [show (4 : Int) + C + C * D + 2 * u + 1 = ((4 + C + C * D + 2 * u + 1 : Nat) : Int) by push_cast; rfl] at h
  exact h
theorem entry_n {C D S : Nat} {a g k : Int} (hr : rightB S a C D g k = true) (u m : Nat) (hu : u < C) (hm : m < D) (w : World) : Calls Try.prog 15 #[.agg (cs S a C D g k), .int .i64 (u : Nat), .int .i64 (m : Nat)] w fun e w' => e = .returned (.int .i64 ((4 + C + u * D + m : Nat) : Int)) ∧ Below w.heap.size w w' := by
  have h := entry_yes (g := g) (k := k) (u : Int) (m : Int) hr (be_iff.2 (by omega)) (be_iff.2 (by omega)) w
  rw [show (4 : Int) + C + u * D + m = ((4 + C + u * D + m : Nat) : Int) by push_cast; rfl] at h
  exact h
theorem header_n {C D S B : Nat} {a g k : Int} (hr : rightB S a C D g k = true) (hB : bsI a = (B : Int)) (u : Nat) (hu : u < S) (w : World) : Calls Try.prog 18 #[.agg (cs S a C D g k), .int .i64 (u : Nat)] w fun e w' => e = .returned (.int .i64 ((4 + C + C * D + 2 * C + u * (2 + B) : Nat) : Int)) ∧ Below w.heap.size w w' := by
  have h := header_yes (g := g) (k := k) (u : Int) hr (be_iff.2 (by omega)) w
  rw [show fsI C D = ((4 + C + C * D + 2 * C : Nat) : Int) by unfold fsI; push_cast; rfl, show ssI a = ((2 + B : Nat) : Int) by unfold ssI; rw [hB]; omega,
    show ((4 + C + C * D + 2 * C : Nat) : Int) + (u : Int) * ((2 + B : Nat) : Int) = ((4 + C + C * D + 2 * C + u * (2 + B) : Nat) : Int) by push_cast; rfl] at h
  exact h
theorem link_n {C D S B : Nat} {a g k : Int} (hr : rightB S a C D g k = true) (hB : bsI a = (B : Int)) (u : Nat) (hu : u < S) (w : World) : Calls Try.prog 19 #[.agg (cs S a C D g k), .int .i64 (u : Nat)] w fun e w' => e = .returned (.int .i64 ((4 + C + C * D + 2 * C + u * (2 + B) + 1 : Nat) : Int)) ∧ Below w.heap.size w w' := by
  have h := link_yes (g := g) (k := k) (u : Int) hr (be_iff.2 (by omega)) w
  rw [show fsI C D = ((4 + C + C * D + 2 * C : Nat) : Int) by unfold fsI; push_cast; rfl, show ssI a = ((2 + B : Nat) : Int) by unfold ssI; rw [hB]; omega,
    show ((4 + C + C * D + 2 * C : Nat) : Int) + (u : Int) * ((2 + B : Nat) : Int) + 1 = ((4 + C + C * D + 2 * C + u * (2 + B) + 1 : Nat) : Int) by push_cast; rfl] at h
  exact h
theorem body_n {C D S B : Nat} {a g k : Int} (hr : rightB S a C D g k = true) (hB : bsI a = (B : Int)) (u n : Nat) (hu : u < S) (hn : n < B) (w : World) : Calls Try.prog 20 #[.agg (cs S a C D g k), .int .i64 (u : Nat), .int .i64 (n : Nat)] w fun e w' => e = .returned (.int .i64 ((4 + C + C * D + 2 * C + u * (2 + B) + (n + 2) : Nat) : Int)) ∧ Below w.heap.size w w' := by
  have h := body_yes (g := g) (k := k) (u : Int) (n : Int) hr (be_iff.2 (by omega)) (be_iff.2 (by rw [hB]; omega)) w
  rw [show fsI C D = ((4 + C + C * D + 2 * C : Nat) : Int) by unfold fsI; push_cast; rfl, show ssI a = ((2 + B : Nat) : Int) by unfold ssI; rw [hB]; omega,
    show ((4 + C + C * D + 2 * C : Nat) : Int) + (u : Int) * ((2 + B : Nat) : Int) + 2 + (n : Int) = ((4 + C + C * D + 2 * C + u * (2 + B) + (n + 2) : Nat) : Int) by push_cast; omega] at h
  exact h
theorem slot_n {C D S B : Nat} {a g k : Int} (hr : rightB S a C D g k = true) (hB : bsI a = (B : Int)) (u n : Nat) (hu : u < S) (hn : n < B) (w : World) : Calls Try.prog 21 #[.agg (cs S a C D g k), .int .i64 ((4 + C + C * D + 2 * C + u * (2 + B) + (n + 2) : Nat) : Int)] w fun e w' => e = .returned (.int .i64 (u : Nat)) ∧ Below w.heap.size w w' := by
  have hm := mul_lt S (2 + B) u (n + 2) hu (by omega)
  have hf : fsI C D = ((4 + C + C * D + 2 * C : Nat) : Int) := by unfold fsI; push_cast; rfl
  have hs : ssI a = ((2 + B : Nat) : Int) := by unfold ssI; rw [hB]; omega
  have h := slot_yes (g := g) (k := k) ((4 + C + C * D + 2 * C + u * (2 + B) + (n + 2) : Nat) : Int) hr ⟨by rw [hf]; omega, by rw [szI_nat C D S B a hB]; unfold nW; omega⟩ w
  rw [hf, hs, show ((4 + C + C * D + 2 * C + u * (2 + B) + (n + 2) : Nat) : Int) - ((4 + C + C * D + 2 * C : Nat) : Int) = ((u * (2 + B) + (n + 2) : Nat) : Int) by omega, ← Int.natCast_ediv, (dm_div (2 + B) u (n + 2) (by omega)).1] at h
  exact h
theorem mk_pin {C D S B N R : Nat} {a g k : Int} {w wr : World} (hD : 1 ≤ D) (hN : nW C D B S = N) {u : Nat} (hu : u < C) {P : Nat} (hPe : 4 + u = P) (ap : Ap w wr R S a C D g k (met C D B N u u u u 0 0 0 0 0)) : Calls Try.prog 28 #[.slice (some ⟨R, 0, none⟩) N N, .int .i64 (P : Nat)] wr fun e w' => e = .returned (.bool true) ∧ Ap w w' R S a C D g k (met C D B N (u + 1) u u u 0 0 0 0 0) := by
  subst hN
  subst hPe
  have hP : 4 + u < nW C D B S := by unfold nW; omega
  refine ap.mark (met_len ..) hP ((met_get hP (wat_pin C D B u hu)).trans ?_) (step_pin hD u u hu)
  unfold mk
  repeat' split
  all_goals omega
theorem mk_view {C D S B N R : Nat} {a g k : Int} {w wr : World} (hD : 1 ≤ D) (hN : nW C D B S = N) {u : Nat} (hu : u < C) {P : Nat} (hPe : 4 + C + C * D + 2 * u = P) (ap : Ap w wr R S a C D g k (met C D B N (u + 1) u u u 0 0 0 0 0)) : Calls Try.prog 28 #[.slice (some ⟨R, 0, none⟩) N N, .int .i64 (P : Nat)] wr fun e w' => e = .returned (.bool true) ∧ Ap w w' R S a C D g k (met C D B N (u + 1) (u + 1) u u 0 0 0 0 0) := by
  subst hN
  subst hPe
  have hP : 4 + C + C * D + 2 * u < nW C D B S := by unfold nW; omega
  refine ap.mark (met_len ..) hP ((met_get hP (wat_view C D B u hu)).trans ?_) (step_view hD u u hu)
  unfold mk
  repeat' split
  all_goals omega
theorem mk_start {C D S B N R : Nat} {a g k : Int} {w wr : World} (hD : 1 ≤ D) (hN : nW C D B S = N) {u : Nat} (hu : u < C) {P : Nat} (hPe : 4 + C + C * D + 2 * u + 1 = P) (ap : Ap w wr R S a C D g k (met C D B N (u + 1) (u + 1) u u 0 0 0 0 0)) : Calls Try.prog 28 #[.slice (some ⟨R, 0, none⟩) N N, .int .i64 (P : Nat)] wr fun e w' => e = .returned (.bool true) ∧ Ap w w' R S a C D g k (met C D B N (u + 1) (u + 1) (u + 1) u 0 0 0 0 0) := by
  subst hN
  subst hPe
  have hP : 4 + C + C * D + 2 * u + 1 < nW C D B S := by unfold nW; omega
  refine ap.mark (met_len ..) hP ((met_get hP (wat_start C D B u hu)).trans ?_) (step_start hD u u hu)
  unfold mk
  repeat' split
  all_goals omega
theorem mk_entry {C D S B N R : Nat} {a g k : Int} {w wr : World} (hD : 1 ≤ D) (hN : nW C D B S = N) {u m : Nat} (hu : u < C) (hm : m < D) {P : Nat} (hPe : 4 + C + u * D + m = P) (ap : Ap w wr R S a C D g k (met C D B N (u + 1) (u + 1) (u + 1) u m 0 0 0 0)) : Calls Try.prog 28 #[.slice (some ⟨R, 0, none⟩) N N, .int .i64 (P : Nat)] wr fun e w' => e = .returned (.bool true) ∧ Ap w w' R S a C D g k (met C D B N (u + 1) (u + 1) (u + 1) u (m + 1) 0 0 0 0) := by
  subst hN
  subst hPe
  have hP : 4 + C + u * D + m < nW C D B S := by have := mul_lt C D u m hu hm; unfold nW; omega
  refine ap.mark (met_len ..) hP ((met_get hP (wat_entry C D B u m hu hm)).trans ?_) (step_entry hD u m hu hm)
  unfold mk
  repeat' split
  all_goals omega
theorem mk_header {C D S B N R : Nat} {a g k : Int} {w wr : World} (hD : 1 ≤ D) (hN : nW C D B S = N) {u : Nat} (hu : u < S) {P : Nat} (hPe : 4 + C + C * D + 2 * C + u * (2 + B) = P) (ap : Ap w wr R S a C D g k (met C D B N C C C C 0 u u u 0)) : Calls Try.prog 28 #[.slice (some ⟨R, 0, none⟩) N N, .int .i64 (P : Nat)] wr fun e w' => e = .returned (.bool true) ∧ Ap w w' R S a C D g k (met C D B N C C C C 0 (u + 1) u u 0) := by
  subst hN
  subst hPe
  have hP : 4 + C + C * D + 2 * C + u * (2 + B) < nW C D B S := by have := mul_lt S (2 + B) u 0 hu (by omega); unfold nW; omega
  refine ap.mark (met_len ..) hP ((met_get hP (wat_header C D B u)).trans ?_) (step_header hD u)
  unfold mk
  repeat' split
  all_goals omega
theorem mk_link {C D S B N R : Nat} {a g k : Int} {w wr : World} (hD : 1 ≤ D) (hN : nW C D B S = N) {u : Nat} (hu : u < S) {P : Nat} (hPe : 4 + C + C * D + 2 * C + u * (2 + B) + 1 = P) (ap : Ap w wr R S a C D g k (met C D B N C C C C 0 (u + 1) u u 0)) : Calls Try.prog 28 #[.slice (some ⟨R, 0, none⟩) N N, .int .i64 (P : Nat)] wr fun e w' => e = .returned (.bool true) ∧ Ap w w' R S a C D g k (met C D B N C C C C 0 (u + 1) (u + 1) u 0) := by
  subst hN
  subst hPe
  have hP : 4 + C + C * D + 2 * C + u * (2 + B) + 1 < nW C D B S := by have := mul_lt S (2 + B) u 1 hu (by omega); unfold nW; omega
  refine ap.mark (met_len ..) hP ((met_get hP (wat_link C D B u)).trans ?_) (step_link hD u)
  unfold mk
  repeat' split
  all_goals omega
theorem mk_body {C D S B N R : Nat} {a g k : Int} {w wr : World} (hD : 1 ≤ D) (hN : nW C D B S = N) {u n : Nat} (hu : u < S) (hn : n < B) {P : Nat} (hPe : 4 + C + C * D + 2 * C + u * (2 + B) + (n + 2) = P) (ap : Ap w wr R S a C D g k (met C D B N C C C C 0 (u + 1) (u + 1) u n)) : Calls Try.prog 28 #[.slice (some ⟨R, 0, none⟩) N N, .int .i64 (P : Nat)] wr fun e w' => e = .returned (.bool true) ∧ Ap w w' R S a C D g k (met C D B N C C C C 0 (u + 1) (u + 1) u (n + 1)) := by
  subst hN
  subst hPe
  have hP : 4 + C + C * D + 2 * C + u * (2 + B) + (n + 2) < nW C D B S := by have := mul_lt S (2 + B) u (n + 2) hu (by omega); unfold nW; omega
  refine ap.mark (met_len ..) hP ((met_get hP (wat_body C D B u n hn)).trans ?_) (step_body hD u n hn)
  unfold mk
  repeat' split
  all_goals omega
end Go.Proofs.Ytcpbfbdmfkhaeab
