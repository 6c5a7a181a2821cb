/- Contracts of mem.New, Words, Of, Copy and of the law's own 'same' and 'does'. -/
import Derived.Test.YtnegdabcjnhpdaaGreatDoorMBase
import Derived.Laws.CopyOwn
import Derived.BigQuiet
import Derived.Deep.RegionWith
namespace Go.Proofs.YtnegdabcjnhpdaaGreatDoor.Mm
open Go.RowKit

def IsWords (w : World) (R : Nat) (X : List Nat) : Prop := w.heap[R]? = some (.cells (wordsOf X) 38 (0, 0))

theorem drew_on {w1 wr : World} (h : Hid (∃ m, wr = w1.drewN m)) (n : Nat) : Hid (∃ m, wr.drewN n = w1.drewN m) := by
  obtain ⟨m, rfl⟩ := h.out
  exact ⟨m + n, by rw [World.drewN_drewN]⟩

def zeroMS (X : List Nat) : MS := ⟨X, 0, 0, 0, 0, 0⟩

theorem Tryz.info38 : (Tryz.prog.info? 38).map (fun i => (i.zero, i.size, i.bytes)) = some (some (.int .u64 0), 1, 8) := by kernel_rfl

theorem made_words {w : World} {base g n c : Nat} (h : w.ownsRow base 38 1 (.slice (some ⟨g, 0, none⟩) n c) n (madeCells #[Value.int .u64 0] n).toList) (hc : c = n) : IsWords w g (List.replicate n 0) := by
  obtain ⟨_, ⟨h0, _⟩ | ⟨g', c', cur, h1, h2, h3, h4, h5, h6, h7⟩⟩ := h
  · cases h0
  · simp only [Value.slice.injEq, Option.some.injEq, Addr.mk.injEq] at h1
    obtain ⟨⟨rfl, -⟩, -, rfl⟩ := h1
    subst hc
    rw [Nat.mul_one] at h6 h7
    have e : cur.toList.take c = cur.toList := List.take_of_length_le (by simp [h6])
    rw [e] at h7
    have e2 : (madeCells #[Value.int .u64 0] c).toList = List.replicate c (Value.int .u64 0) := toList_madeCells_one _ _
    rw [e2] at h7
    show w.heap[g]? = _
    rw [h3]
    have e3 : cur = wordsOf (List.replicate c 0) := by
      apply Array.ext'
      rw [h7]
      simp [wordsOf]
    rw [e3]

theorem of_grown {w w' : World} (h : w.grownBy w' none) : Below w.heap.size w w' := ⟨h.os, h.tape, h.output, h.size, fun k hk => h.block k hk (by simp)⟩

theorem heap_new (w : World) (o : Obj) : (w.alloc o).heap[w.heap.size]? = some o := (MapKept.heap_alloc w o).1

theorem new_mem {w w1 : World} {n : Nat} (hr : IsWords w1 w.heap.size (List.replicate n 0)) (hb : Below w.heap.size w w1) (o : Obj)
    (ho : o = .cells #[.slice (some ⟨w.heap.size, 0, none⟩) n n, .int .i64 0, .int .i64 0, .int .i64 0, .int .u64 0, .int .u64 0] 79 (0, 0)) :
    IsMem (w1.alloc o) w1.heap.size w.heap.size (zeroMS (List.replicate n 0)) ∧ Below w.heap.size w (w1.alloc o) := by
  have hlt : w.heap.size < w1.heap.size := lt_of_block hr
  refine ⟨⟨?_, ?_, by omega, ?_⟩, hb.alloc hb.size o⟩
  · rw [heap_new, ho]; simp [zeroMS]
  · rw [Below.heap_alloc _ _ _ hlt]; exact hr
  · intro x hx
    simp [zeroMS] at hx
    omega

set_option maxHeartbeats 400000 in
set_option maxRecDepth 100000 in
theorem new_any (n : Nat) (h : n ≤ 65536) (w : World) :
    Calls Tryz.prog 36 #[.int .i64 n] w fun e w' => ∃ M G, e = .returned (.pointer (some ⟨M, 0, none⟩)) ∧ IsMem w' M G (zeroMS (List.replicate n 0)) ∧ w.heap.size ≤ M ∧ w.heap.size ≤ G ∧ Below w.heap.size w w' := by
  obtain ⟨i0, hi, hz0, hz1, hz2⟩ := info_parts Tryz.info38
  go_enter Tryz.func36, Tryz.ntmps36
  go_wp2_with (at_make; refine wpList_make_full _ rfl _ _ 39 rfl w.heap.size 38 i0 (.int .u64 0) 1 Tryz.underlying39 hi hz0 hz1 .i64 .i64 n n n rfl rfl rfl rfl ?c1 ?c2 (Nat.le_refl _) ?_)
  case c1 => rw [hz2]; omega
  case c2 => unfold maxLen; omega
  · intro w1 hown hgrow
    have hr := made_words hown rfl
    have hb := of_grown hgrow
    have HR : Hid (IsWords w1 w.heap.size (List.replicate n 0)) := hr
    have HB : Hid (Below w.heap.size w w1) := hb
    clear hown hgrow hr hb
    go_wp2
    go_ret
    have R := new_mem HR.out HB.out _ rfl
    exact ⟨_, _, rfl, R.1, HB.out.size, Nat.le_refl _, R.2⟩

set_option maxHeartbeats 400000 in
theorem new_no (n : Int) (h : n < 0 ∨ 65536 < n) (w : World) : Calls Tryz.prog 36 #[.int .i64 n] w fun e w' => e = .returned (.pointer none) ∧ w = w' := by
  rcases h with h | h
  · go_enter Tryz.func36, Tryz.ntmps36
    go_wp2
    go_ret
    exact ⟨rfl, rfl⟩
  · go_enter Tryz.func36, Tryz.ntmps36
    go_wp2
    go_ret
    exact ⟨rfl, rfl⟩

/-! Words -/
theorem words_splice (n : Nat) (X : List Nat) (hl : X.length = n) : (splice (List.replicate n (Value.int .u64 0)) 0 (wordsOf X).toList).toArray = wordsOf X := by
  subst hl
  simp [splice, wordsOf]

theorem words_toList (X : List Nat) : (wordsOf X).toList = X.map fun (x : Nat) => Value.int .u64 (x : Int) := by simp [wordsOf]

theorem words_cell {w : World} {R : Nat} {X : List Nat} (h : IsWords w R X) (j : Nat) (v : Value) (hj : (wordsOf X)[j]? = some v) : w.cell? ⟨R, j, none⟩ = some v := by
  simp only [World.cell?, show w.heap[R]? = _ from h]
  simpa using hj
theorem words_at {w : World} {R : Nat} {X : List Nat} (h : IsWords w R X) (j : Nat) (hj : j < X.length) : w.cell? ⟨R, j, none⟩ = some (.int .u64 (X.getD j 0 : Nat)) :=
  words_cell h j _ (by simp [wordsOf, hj])
theorem words_one (X : List Nat) : ∀ v ∈ (wordsOf X).toList, v.oneCell' = true := by
  intro v hv
  rw [words_toList] at hv
  obtain ⟨x, _, rfl⟩ := List.mem_map.1 hv
  rfl
theorem add_none (b off i : Nat) : (⟨b, off, none⟩ : Addr).add i = ⟨b, off + i, none⟩ := by
  by_cases h : i = 0
  · subst h; simp [Addr.add]
  · simp [Addr.add, h]

/-! Of -/
theorem mem_setRow {w : World} {M G : Nat} {s : MS} (h : IsMem w M G s) (X : List Nat) (cs : Array Value) (hcs : cs = wordsOf X) (hl : X.length = s.X.length) (hX : ∀ x ∈ X, x < 18446744073709551616) : IsMem (w.setRow G cs) M G { s with X := X } := by
  refine ⟨?_, ?_, h.ne, hX⟩
  · rw [setRow_other w G M cs h.ne]; simpa [hl] using h.head
  · rw [setRow_heap w G _ cs 38 _ h.row, hcs]

set_option maxHeartbeats 400000 in
theorem of_any {R : Nat} {X : List Nat} {w : World} (h : IsWords w R X) (hX : ∀ x ∈ X, x < 18446744073709551616) (hl : X.length ≤ 65536) :
    Calls Tryz.prog 18 #[.slice (some ⟨R, 0, none⟩) X.length X.length] w fun e w' => ∃ M G, e = .returned (.pointer (some ⟨M, 0, none⟩)) ∧ IsMem w' M G (zeroMS X) ∧ w.heap.size ≤ M ∧ w.heap.size ≤ G ∧ Below w.heap.size w w' := by
  have hsz : (Tryz.prog.info? 38).map (·.size) = some 1 := by obtain ⟨i0, hi, hz0, hz1, hz2⟩ := info_parts Tryz.info38; rw [hi]; simp [hz1]
  have c1 := new_any X.length hl w
  have HX : Hid (IsWords w R X) := h
  clear h
  generalize hn : X.length = n at *
  go_enter Tryz.func18, Tryz.ntmps18
  go_wp2_with (first
    | (go_at_call 36; refine c1.mono ?_; rintro e w1 ⟨M, G, rfl, hm, hM, hG, hb⟩; have h0 : w1.cell? ⟨M, 0, none⟩ = some (.slice (some ⟨G, 0, none⟩) n n) := by simpa [zeroMS] using hm.c0)
    | (refine wpList_copy_own rfl (.tmp 12) (.tmp 13) 39 39 rfl 38 Tryz.underlying39 hsz G 0 n n ⟨R, 0, none⟩ n n rfl rfl (wordsOf (List.replicate n 0)) 38 ?d1 (wordsOf X).toList ?d2 ?d3 ?d4 ?d5 ?_))
  case d1 => exact hm.row
  case d2 => simp [wordsOf, hn]
  case d3 =>
    intro j v hj
    rw [add_none, Nat.zero_add, hb.cell (lt_of_block (show w.heap[R]? = _ from HX.out))]
    exact words_cell HX.out j v (by simpa using hj)
  case d4 => simp [wordsOf, hn]
  case d5 => exact words_one _
  · go_wp2
    go_ret
    refine ⟨M, G, rfl, mem_setRow hm X _ ?_ (by simp [zeroMS, hn]) hX, hM, hG, below_setRow hb hG _⟩
    simp [wordsOf, hn]

/-! Copy -/
theorem copy_mem {w w1 : World} {M G R : Nat} {s : MS} (h : IsMem w M G s) (hr : IsWords w1 R s.X) (hb : Below w.heap.size w w1) (o : Obj)
    (ho : o = .cells #[.slice (some ⟨R, 0, none⟩) s.X.length s.X.length, .int .i64 s.t, .int .i64 s.k, .int .i64 s.a, .int .u64 s.p, .int .u64 s.q] 79 (0, 0)) :
    IsMem (w1.alloc o) w1.heap.size R s ∧ Below w.heap.size w (w1.alloc o) := by
  have hlt : R < w1.heap.size := lt_of_block hr
  refine ⟨⟨?_, ?_, by omega, h.fits⟩, hb.alloc hb.size o⟩
  · rw [heap_new, ho]
  · rw [Below.heap_alloc _ _ _ hlt]; exact hr

end Go.Proofs.YtnegdabcjnhpdaaGreatDoor.Mm
