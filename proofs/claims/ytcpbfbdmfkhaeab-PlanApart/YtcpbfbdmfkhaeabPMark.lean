/- A row of counts, and the contract of the law's own 'mark'; how often each place is met, by how far the loops are. -/
import Derived.Test.YtcpbfbdmfkhaeabPMem
namespace Go.Proofs.Ytcpbfbdmfkhaeab
open Go.RowKit
open Mm (Only)

def intsOf (Y : List Nat) : Array Value := (Y.map fun (x : Nat) => Value.int .i64 (x : Int)).toArray
def IsInts (w : World) (R : Nat) (Y : List Nat) : Prop := w.heap[R]? = some (.cells (intsOf Y) 3 (0, 0))

theorem ints_at {w : World} {R : Nat} {Y : List Nat} (h : IsInts w R Y) (i : Nat) (hi : i < Y.length) : w.cell? ⟨R, i, none⟩ = some (.int .i64 (Y.getD i 0 : Nat)) := by
  have h' : w.heap[R]? = _ := h
  simp [World.cell?, h', intsOf, hi]
theorem ints_free {w : World} {R : Nat} {Y : List Nat} (h : IsInts w R Y) (i : Nat) : w.frozen? ⟨R, i, none⟩ = false := by
  have h' : w.heap[R]? = _ := h
  simp [World.frozen?, h']
theorem ints_stored {w : World} {R : Nat} {Y : List Nat} (h : IsInts w R Y) (i n : Nat) (v : Int) (hv : (n : Int) = v) : IsInts (w.setCell ⟨R, i, none⟩ (.int .i64 v)) R (Y.set i n) := by
  subst hv
  show (w.setCell ⟨R, i, none⟩ _).heap[R]? = _
  rw [Mm.heap_setCell_at h]
  congr 2
  apply Array.ext'
  simp [intsOf, List.map_set]
theorem ints_below {w w' : World} {R : Nat} {Y : List Nat} (h : IsInts w R Y) (b : Below w.heap.size w w') : IsInts w' R Y := by
  show w'.heap[R]? = _
  rw [b.block R (lt_of_block h)]; exact h
theorem Try.info3 : (Try.prog.info? 3).map (fun i => (i.zero, i.size, i.bytes)) = some (some (.int .i64 0), 1, 8) := by kernel_rfl
theorem made_ints {w : World} {base g n c : Nat} (h : w.ownsRow base 3 1 (.slice (some ⟨g, 0, none⟩) n c) n (madeCells #[Value.int .i64 0] n).toList) (hc : c = n) : IsInts w g (List.replicate n 0) := by
  obtain ⟨_, ⟨h0, _⟩ | ⟨g', c', cur, h1, h2, h3, h4, h5, h6, h7⟩⟩ := h
  · cases h0
  · simp only [Value.slice.injEq, Option.some.injEq, Addr.mk.injEq] at h1
    obtain ⟨⟨rfl, -⟩, -, rfl⟩ := h1
    subst hc
    rw [Nat.mul_one] at h6 h7
    have e : cur.toList.take c = cur.toList := List.take_of_length_le (by simp [h6])
    rw [e] at h7
    have e2 : (madeCells #[Value.int .i64 0] c).toList = List.replicate c (Value.int .i64 0) := toList_madeCells_one _ _
    rw [e2] at h7
    show w.heap[g]? = _
    rw [h3]
    have e3 : cur = intsOf (List.replicate c 0) := by
      apply Array.ext'
      rw [h7]
      simp [intsOf]
    rw [e3]

set_option maxHeartbeats 400000 in
theorem mark_any {w : World} {R N : Nat} {Y : List Nat} (h : IsInts w R Y) (P : Nat) (hN : Y.length = N) (hP : P < N) (h0 : Y.getD P 0 = 0) :
    Calls Try.prog 28 #[.slice (some ⟨R, 0, none⟩) N N, .int .i64 (P : Nat)] w fun e w' => e = .returned (.bool true) ∧ IsInts w' R (Y.set P 1) ∧ Only R R w w' := by
  have q := ints_at h P (by omega)
  rw [h0] at q
  have f := ints_free h P
  go_enter Try.func28, Try.ntmps28
  go_wp2
  go_ret
  exact ⟨rfl, ints_stored h P 1 _ rfl, (Only.refl R R w).setCell (.inl rfl) _⟩

/-- How often a word is met, by how far the loops are. -/
def mk (u4 u6 u7 e m u8 u9 b n K X Y : Nat) : Nat :=
  if K < 4 then 1 else if K = 4 then (if X < u4 then 1 else 0) else if K = 6 then (if X < u6 then 1 else 0) else if K = 7 then (if X < u7 then 1 else 0)
  else if K = 5 then (if X < e ∨ (X = e ∧ Y < m) then 1 else 0) else if K = 8 then (if X < u8 then 1 else 0) else if K = 9 then (if X < u9 then 1 else 0)
  else (if X < b ∨ (X = b ∧ Y < n) then 1 else 0)
def met (C D B N u4 u6 u7 e m u8 u9 b n : Nat) : List Nat := (List.range N).map fun p => mk u4 u6 u7 e m u8 u9 b n (wat C D B p).1 (wat C D B p).2.1 (wat C D B p).2.2
theorem met_len (C D B N u4 u6 u7 e m u8 u9 b n : Nat) : (met C D B N u4 u6 u7 e m u8 u9 b n).length = N := by simp [met]
theorem met_get {C D B N u4 u6 u7 e m u8 u9 b n P K X Y : Nat} (hP : P < N) (hw : wat C D B P = (K, X, Y)) : (met C D B N u4 u6 u7 e m u8 u9 b n).getD P 0 = mk u4 u6 u7 e m u8 u9 b n K X Y := by
  simp [met, hP, hw]
theorem met_step {C D B S u4 u6 u7 e m u8 u9 b n v4 v6 v7 f q v8 v9 c r P K X Y : Nat} (hD : 1 ≤ D) (hw : wat C D B P = (K, X, Y)) (h1 : mk v4 v6 v7 f q v8 v9 c r K X Y = 1)
    (h : ∀ k x y : Nat, ¬ (k = K ∧ x = X ∧ y = Y) → (k < 4 ∨ ((k = 4 ∨ k = 6 ∨ k = 7) ∧ x < C ∧ y = 0) ∨ (k = 5 ∧ x < C ∧ y < D) ∨ ((k = 8 ∨ k = 9) ∧ x < S ∧ y = 0) ∨ (k = 10 ∧ x < S ∧ y < B)) → mk v4 v6 v7 f q v8 v9 c r k x y = mk u4 u6 u7 e m u8 u9 b n k x y) :
    (met C D B (nW C D B S) u4 u6 u7 e m u8 u9 b n).set P 1 = met C D B (nW C D B S) v4 v6 v7 f q v8 v9 c r := by
  apply List.ext_getElem
  · simp [met]
  · intro p h2 h3
    have hp : p < nW C D B S := by simpa [met] using h3
    simp only [List.getElem_set, met, List.getElem_map, List.getElem_range]
    by_cases hpp : P = p
    · subst hpp
      rw [if_pos rfl, hw]; exact h1.symm
    · rw [if_neg hpp]
      refine (h _ _ _ ?_ (wat_b hD hp)).symm
      rintro ⟨a1, a2, a3⟩
      have e1 : wat C D B p = (K, X, Y) := Prod.ext a1 (Prod.ext a2 a3)
      exact hpp (by rw [wat_inv hw, wat_inv e1])
theorem met_same {C D B S u4 u6 u7 e m u8 u9 b n v4 v6 v7 f q v8 v9 c r : Nat} (hD : 1 ≤ D)
    (h : ∀ k x y : Nat, (k < 4 ∨ ((k = 4 ∨ k = 6 ∨ k = 7) ∧ x < C ∧ y = 0) ∨ (k = 5 ∧ x < C ∧ y < D) ∨ ((k = 8 ∨ k = 9) ∧ x < S ∧ y = 0) ∨ (k = 10 ∧ x < S ∧ y < B)) → mk v4 v6 v7 f q v8 v9 c r k x y = mk u4 u6 u7 e m u8 u9 b n k x y) :
    met C D B (nW C D B S) u4 u6 u7 e m u8 u9 b n = met C D B (nW C D B S) v4 v6 v7 f q v8 v9 c r := by
  apply List.ext_getElem
  · simp [met]
  · intro p h2 h3
    have hp : p < nW C D B S := by simpa [met] using h3
    simp only [met, List.getElem_map, List.getElem_range]
    exact (h _ _ _ (wat_b hD hp)).symm
theorem met_start {C D B S : Nat} : ((List.range (nW C D B S)).map fun p => if p < 4 then 1 else 0) = met C D B (nW C D B S) 0 0 0 0 0 0 0 0 0 := by
  apply List.ext_getElem
  · simp [met]
  · intro p h2 h3
    simp only [met, List.getElem_map, List.getElem_range]
    have hk := kind_range (C := C) (D := D) (B := B) (p := p)
    generalize (wat C D B p).1 = K at *
    generalize (wat C D B p).2.1 = X at *
    generalize (wat C D B p).2.2 = Y at *
    unfold mk
    repeat' split
    all_goals omega
theorem met_end {C D B S : Nat} (hD : 1 ≤ D) (p : Nat) (hp : p < nW C D B S) : (met C D B (nW C D B S) C C C C 0 S S S 0).getD p 0 = 1 := by
  have hb := wat_b (S := S) hD hp
  rw [met_get (K := (wat C D B p).1) (X := (wat C D B p).2.1) (Y := (wat C D B p).2.2) hp rfl]
  generalize (wat C D B p).1 = K at *
  generalize (wat C D B p).2.1 = X at *
  generalize (wat C D B p).2.2 = Y at *
  unfold mk
  repeat' split
  all_goals omega

theorem step_pin {C D B S : Nat} (hD : 1 ≤ D) (u e : Nat) (hu : u < C) : (met C D B (nW C D B S) u u u e 0 0 0 0 0).set (4 + u) 1 = met C D B (nW C D B S) (u + 1) u u e 0 0 0 0 0 := by
  refine met_step hD (wat_pin C D B u hu) ?_ ?_
  · unfold mk; repeat' split
    all_goals omega
  · intro k x y hne hb
    unfold mk
    repeat' split
    all_goals omega
theorem step_view {C D B S : Nat} (hD : 1 ≤ D) (u e : Nat) (hu : u < C) : (met C D B (nW C D B S) (u + 1) u u e 0 0 0 0 0).set (4 + C + C * D + 2 * u) 1 = met C D B (nW C D B S) (u + 1) (u + 1) u e 0 0 0 0 0 := by
  refine met_step hD (wat_view C D B u hu) ?_ ?_
  · unfold mk; repeat' split
    all_goals omega
  · intro k x y hne hb
    unfold mk
    repeat' split
    all_goals omega
theorem step_start {C D B S : Nat} (hD : 1 ≤ D) (u e : Nat) (hu : u < C) : (met C D B (nW C D B S) (u + 1) (u + 1) u e 0 0 0 0 0).set (4 + C + C * D + 2 * u + 1) 1 = met C D B (nW C D B S) (u + 1) (u + 1) (u + 1) e 0 0 0 0 0 := by
  refine met_step hD (wat_start C D B u hu) ?_ ?_
  · unfold mk; repeat' split
    all_goals omega
  · intro k x y hne hb
    unfold mk
    repeat' split
    all_goals omega
theorem step_entry {C D B S : Nat} (hD : 1 ≤ D) (u m : Nat) (hu : u < C) (hm : m < D) : (met C D B (nW C D B S) (u + 1) (u + 1) (u + 1) u m 0 0 0 0).set (4 + C + u * D + m) 1 = met C D B (nW C D B S) (u + 1) (u + 1) (u + 1) u (m + 1) 0 0 0 0 := by
  refine met_step hD (wat_entry C D B u m hu hm) ?_ ?_
  · unfold mk; repeat' split
    all_goals omega
  · intro k x y hne hb
    unfold mk
    repeat' split
    all_goals omega
theorem roll_entry {C D B S : Nat} (hD : 1 ≤ D) (u : Nat) : met C D B (nW C D B S) (u + 1) (u + 1) (u + 1) u D 0 0 0 0 = met C D B (nW C D B S) (u + 1) (u + 1) (u + 1) (u + 1) 0 0 0 0 0 := by
  refine met_same hD ?_
  intro k x y hb
  unfold mk
  repeat' split
  all_goals omega
theorem step_header {C D B S : Nat} (hD : 1 ≤ D) (u : Nat) : (met C D B (nW C D B S) C C C C 0 u u u 0).set (4 + C + C * D + 2 * C + u * (2 + B)) 1 = met C D B (nW C D B S) C C C C 0 (u + 1) u u 0 := by
  refine met_step hD (wat_header C D B u) ?_ ?_
  · unfold mk; repeat' split
    all_goals omega
  · intro k x y hne hb
    unfold mk
    repeat' split
    all_goals omega
theorem step_link {C D B S : Nat} (hD : 1 ≤ D) (u : Nat) : (met C D B (nW C D B S) C C C C 0 (u + 1) u u 0).set (4 + C + C * D + 2 * C + u * (2 + B) + 1) 1 = met C D B (nW C D B S) C C C C 0 (u + 1) (u + 1) u 0 := by
  refine met_step hD (wat_link C D B u) ?_ ?_
  · unfold mk; repeat' split
    all_goals omega
  · intro k x y hne hb
    unfold mk
    repeat' split
    all_goals omega
theorem step_body {C D B S : Nat} (hD : 1 ≤ D) (u n : Nat) (hn : n < B) : (met C D B (nW C D B S) C C C C 0 (u + 1) (u + 1) u n).set (4 + C + C * D + 2 * C + u * (2 + B) + (n + 2)) 1 = met C D B (nW C D B S) C C C C 0 (u + 1) (u + 1) u (n + 1) := by
  refine met_step hD (wat_body C D B u n hn) ?_ ?_
  · unfold mk; repeat' split
    all_goals omega
  · intro k x y hne hb
    unfold mk
    repeat' split
    all_goals omega
theorem roll_body {C D B S : Nat} (hD : 1 ≤ D) (u : Nat) : met C D B (nW C D B S) C C C C 0 (u + 1) (u + 1) u B = met C D B (nW C D B S) C C C C 0 (u + 1) (u + 1) (u + 1) 0 := by
  refine met_same hD ?_
  intro k x y hb
  unfold mk
  repeat' split
  all_goals omega
end Go.Proofs.Ytcpbfbdmfkhaeab
