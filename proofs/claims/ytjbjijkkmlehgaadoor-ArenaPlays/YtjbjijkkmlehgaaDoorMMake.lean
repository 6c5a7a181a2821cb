/- Contracts of mem.New, Words, Of, Copy and of the law's own 'same' and 'does'. -/
import Derived.Test.YtjbjijkkmlehgaaDoorMBase
import Derived.Laws.CopyOwn
import Derived.BigQuiet
import Derived.Deep.RegionWith
namespace Go.Proofs.YtjbjijkkmlehgaaDoor.Mm
open Go.RowKit

def IsWords (w : World) (R : Nat) (X : List Nat) : Prop := w.heap[R]? = some (.cells (wordsOf X) 35 (0, 0))

theorem drew_on {w1 wr : World} (h : Hid (∃ m, wr = w1.drewN m)) (n : Nat) : Hid (∃ m, wr.drewN n = w1.drewN m) := by
  obtain ⟨m, rfl⟩ := h.out
  exact ⟨m + n, by rw [World.drewN_drewN]⟩

def zeroMS (X : List Nat) : MS := ⟨X, 0, 0, 0, 0, 0⟩

theorem Tryd.info35 : (Tryd.prog.info? 35).map (fun i => (i.zero, i.size, i.bytes)) = some (some (.int .u64 0), 1, 8) := by kernel_rfl

theorem made_words {w : World} {base g n c : Nat} (h : w.ownsRow base 35 1 (.slice (some ⟨g, 0, none⟩) n c) n (madeCells #[Value.int .u64 0] n).toList) (hc : c = n) : IsWords w g (List.replicate n 0) := by
  obtain ⟨_, ⟨h0, _⟩ | ⟨g', c', cur, h1, h2, h3, h4, h5, h6, h7⟩⟩ := h
  · cases h0
  · simp only [Value.slice.injEq, Option.some.injEq, Addr.mk.injEq] at h1
    obtain ⟨⟨rfl, -⟩, -, rfl⟩ := h1
    subst hc
    rw [Nat.mul_one] at h6 h7
    have e : cur.toList.take c = cur.toList := List.take_of_length_le (by simp [h6])
    rw [e] at h7
    have e2 : (madeCells #[Value.int .u64 0] c).toList = List.replicate c (Value.int .u64 0) := toList_madeCells_one _ _
    rw [e2] at h7
    show w.heap[g]? = _
    rw [h3]
    have e3 : cur = wordsOf (List.replicate c 0) := by
      apply Array.ext'
      rw [h7]
      simp [wordsOf]
    rw [e3]

theorem of_grown {w w' : World} (h : w.grownBy w' none) : Below w.heap.size w w' := ⟨h.os, h.tape, h.output, h.size, fun k hk => h.block k hk (by simp)⟩

theorem heap_new (w : World) (o : Obj) : (w.alloc o).heap[w.heap.size]? = some o := (MapKept.heap_alloc w o).1

theorem new_mem {w w1 : World} {n : Nat} (hr : IsWords w1 w.heap.size (List.replicate n 0)) (hb : Below w.heap.size w w1) (o : Obj)
    (ho : o = .cells #[.slice (some ⟨w.heap.size, 0, none⟩) n n, .int .i64 0, .int .i64 0, .int .i64 0, .int .u64 0, .int .u64 0] 92 (0, 0)) :
    IsMem (w1.alloc o) w1.heap.size w.heap.size (zeroMS (List.replicate n 0)) ∧ Below w.heap.size w (w1.alloc o) := by
  have hlt : w.heap.size < w1.heap.size := lt_of_block hr
  refine ⟨⟨?_, ?_, by omega, ?_⟩, hb.alloc hb.size o⟩
  · rw [heap_new, ho]; simp [zeroMS]
  · rw [Below.heap_alloc _ _ _ hlt]; exact hr
  · intro x hx
    simp [zeroMS] at hx
    omega

set_option maxRecDepth 100000 in
set_option maxHeartbeats 400000 in
theorem new_any (n : Nat) (h : n ≤ 65536) (w : World) :
    Calls Tryd.prog 65 #[.int .i64 n] w fun e w' => ∃ M G, e = .returned (.pointer (some ⟨M, 0, none⟩)) ∧ IsMem w' M G (zeroMS (List.replicate n 0)) ∧ w.heap.size ≤ M ∧ w.heap.size ≤ G ∧ Below w.heap.size w w' := by
  obtain ⟨i0, hi, hz0, hz1, hz2⟩ := info_parts Tryd.info35
  go_enter Tryd.func65, Tryd.ntmps65
  go_wp2_with (at_make; refine wpList_make_full _ rfl _ _ 44 rfl w.heap.size 35 i0 (.int .u64 0) 1 Tryd.underlying44 hi hz0 hz1 .i64 .i64 n n n rfl rfl rfl rfl ?c1 ?c2 (Nat.le_refl _) ?_)
  case c1 => rw [hz2]; omega
  case c2 => unfold maxLen; omega
  · intro w1 hown hgrow
    have hr := made_words hown rfl
    have hb := of_grown hgrow
    have HR : Hid (IsWords w1 w.heap.size (List.replicate n 0)) := hr
    have HB : Hid (Below w.heap.size w w1) := hb
    clear hown hgrow hr hb
    go_wp2
    go_ret
    have R := new_mem HR.out HB.out _ rfl
    exact ⟨_, _, rfl, R.1, HB.out.size, Nat.le_refl _, R.2⟩

set_option maxHeartbeats 400000 in
theorem new_no (n : Int) (h : n < 0 ∨ 65536 < n) (w : World) : Calls Tryd.prog 65 #[.int .i64 n] w fun e w' => e = .returned (.pointer none) ∧ w = w' := by
  rcases h with h | h
  · go_enter Tryd.func65, Tryd.ntmps65
    go_wp2
    go_ret
    exact ⟨rfl, rfl⟩
  · go_enter Tryd.func65, Tryd.ntmps65
    go_wp2
    go_ret
    exact ⟨rfl, rfl⟩

/-! Words -/
theorem words_splice (n : Nat) (X : List Nat) (hl : X.length = n) : (splice (List.replicate n (Value.int .u64 0)) 0 (wordsOf X).toList).toArray = wordsOf X := by
  subst hl
  simp [splice, wordsOf]

theorem words_toList (X : List Nat) : (wordsOf X).toList = X.map fun (x : Nat) => Value.int .u64 (x : Int) := by simp [wordsOf]

theorem words_cell {w : World} {R : Nat} {X : List Nat} (h : IsWords w R X) (j : Nat) (v : Value) (hj : (wordsOf X)[j]? = some v) : w.cell? ⟨R, j, none⟩ = some v := by
  simp only [World.cell?, show w.heap[R]? = _ from h]
  simpa using hj
theorem words_at {w : World} {R : Nat} {X : List Nat} (h : IsWords w R X) (j : Nat) (hj : j < X.length) : w.cell? ⟨R, j, none⟩ = some (.int .u64 (X.getD j 0 : Nat)) :=
  words_cell h j _ (by simp [wordsOf, hj])
theorem words_one (X : List Nat) : ∀ v ∈ (wordsOf X).toList, v.oneCell' = true := by
  intro v hv
  rw [words_toList] at hv
  obtain ⟨x, _, rfl⟩ := List.mem_map.1 hv
  rfl
theorem add_none (b off i : Nat) : (⟨b, off, none⟩ : Addr).add i = ⟨b, off + i, none⟩ := by
  by_cases h : i = 0
  · subst h; simp [Addr.add]
  · simp [Addr.add, h]

set_option maxHeartbeats 400000 in
theorem words_any {M G : Nat} {s : MS} {w : World} (h : IsMem w M G s) (hl : s.X.length ≤ 65536) :
    Calls Tryd.prog 13 #[.pointer (some ⟨M, 0, none⟩)] w fun e w' => ∃ R, e = .returned (.slice (some ⟨R, 0, none⟩) s.X.length s.X.length) ∧ IsWords w' R s.X ∧ w.heap.size ≤ R ∧ Below w.heap.size w w' := by
  obtain ⟨i0, hi, hz0, hz1, hz2⟩ := info_parts Tryd.info35
  have c1 := size_any h
  have hsz : (Tryd.prog.info? 35).map (·.size) = some 1 := by rw [hi]; simp [hz1]
  have HM : Hid (IsMem w M G s) := h
  clear h
  generalize hn : s.X.length = n at *
  go_enter Tryd.func13, Tryd.ntmps13
  go_wp2_with (first
    | (go_at_call 43; refine c1.mono ?_; rintro e w' ⟨rfl, rfl⟩)
    | (at_make; refine wpList_make_full _ rfl _ _ 44 rfl w.heap.size 35 i0 (.int .u64 0) 1 Tryd.underlying44 hi hz0 hz1 .i64 .i64 n n n rfl rfl rfl rfl ?c1 ?c2 (Nat.le_refl _) ?_))
  case c1 => rw [hz2]; omega
  case c2 => unfold maxLen; omega
  · intro w1 hown hgrow
    have hr := made_words hown rfl
    have hb := of_grown hgrow
    have hM1 := HM.out.below hb
    have h0 := hM1.c0
    rw [hn] at h0
    have HR : Hid (IsWords w1 w.heap.size (List.replicate n 0)) := hr
    have HB : Hid (Below w.heap.size w w1) := hb
    clear hown hgrow hr hb
    go_wp2_with ((refine wpList_copy_splice rfl (.tmp 9) (.tmp 13) 44 44 rfl 35 Tryd.underlying44 hsz _ _ n n n n rfl rfl w.heap.size 0 (List.replicate n (Value.int .u64 0)) 35 ?d1 (wordsOf s.X).toList ?d2 ?d3 ?d4 ?d5 w.heap.size w HB.out (Nat.le_refl _) ?_))
    case d1 => exact HR.out.trans (by simp [wordsOf])
    case d2 => simp [wordsOf, hn]
    case d3 => first | exact fun _ j v hj => words_cell hM1.row j v hj | exact fun _ => ⟨rfl, _, rfl, fun j v hj => by rw [add_none]; exact words_cell hM1.row _ v (by simpa using hj)⟩
    case d4 => simp [wordsOf, hn]
    case d5 => exact words_one _
    · intro w2 hrow hb2
      have HR2 : Hid (IsWords w2 w.heap.size s.X) := by
        have := hrow.out
        rw [words_splice n s.X hn] at this
        exact this
      clear hrow HR hM1 h0
      go_wp2
      go_ret
      exact ⟨_, rfl, HR2.out, Nat.le_refl _, hb2⟩

set_option maxHeartbeats 400000 in
theorem words_nil (w : World) : Calls Tryd.prog 13 #[.pointer none] w fun e w' => ∃ R, e = .returned (.slice (some ⟨R, 0, none⟩) 0 0) ∧ Below w.heap.size w w' := by
  obtain ⟨i0, hi, hz0, hz1, hz2⟩ := info_parts Tryd.info35
  go_enter Tryd.func13, Tryd.ntmps13
  go_wp2_with (first
    | (go_at_call 43; refine (size_nil _).mono ?_; rintro e w' ⟨rfl, rfl⟩)
    | (at_make; refine wpList_make_full _ rfl _ _ 44 rfl w.heap.size 35 i0 (.int .u64 0) 1 Tryd.underlying44 hi hz0 hz1 .i64 .i64 0 0 0 rfl rfl rfl rfl ?c1 ?c2 (Nat.le_refl _) ?_))
  case c1 => omega
  case c2 => omega
  · intro w1 hown hgrow
    have hb := of_grown hgrow
    clear hown hgrow
    go_wp2
    go_ret
    exact ⟨_, rfl, hb⟩

/-! Of -/
theorem mem_setRow {w : World} {M G : Nat} {s : MS} (h : IsMem w M G s) (X : List Nat) (cs : Array Value) (hcs : cs = wordsOf X) (hl : X.length = s.X.length) (hX : ∀ x ∈ X, x < 18446744073709551616) : IsMem (w.setRow G cs) M G { s with X := X } := by
  refine ⟨?_, ?_, h.ne, hX⟩
  · rw [setRow_other w G M cs h.ne]; simpa [hl] using h.head
  · rw [setRow_heap w G _ cs 35 _ h.row, hcs]

set_option maxHeartbeats 400000 in
theorem of_any {R : Nat} {X : List Nat} {w : World} (h : IsWords w R X) (hX : ∀ x ∈ X, x < 18446744073709551616) (hl : X.length ≤ 65536) :
    Calls Tryd.prog 38 #[.slice (some ⟨R, 0, none⟩) X.length X.length] w fun e w' => ∃ M G, e = .returned (.pointer (some ⟨M, 0, none⟩)) ∧ IsMem w' M G (zeroMS X) ∧ w.heap.size ≤ M ∧ w.heap.size ≤ G ∧ Below w.heap.size w w' := by
  have hsz : (Tryd.prog.info? 35).map (·.size) = some 1 := by obtain ⟨i0, hi, hz0, hz1, hz2⟩ := info_parts Tryd.info35; rw [hi]; simp [hz1]
  have c1 := new_any X.length hl w
  have HX : Hid (IsWords w R X) := h
  clear h
  generalize hn : X.length = n at *
  go_enter Tryd.func38, Tryd.ntmps38
  go_wp2_with (first
    | (go_at_call 65; refine c1.mono ?_; rintro e w1 ⟨M, G, rfl, hm, hM, hG, hb⟩; have h0 : w1.cell? ⟨M, 0, none⟩ = some (.slice (some ⟨G, 0, none⟩) n n) := by simpa [zeroMS] using hm.c0)
    | (refine wpList_copy_own rfl (.tmp 12) (.tmp 13) 44 44 rfl 35 Tryd.underlying44 hsz G 0 n n ⟨R, 0, none⟩ n n rfl rfl (wordsOf (List.replicate n 0)) 35 ?d1 (wordsOf X).toList ?d2 ?d3 ?d4 ?d5 ?_))
  case d1 => exact hm.row
  case d2 => simp [wordsOf, hn]
  case d3 =>
    intro j v hj
    rw [add_none, Nat.zero_add, hb.cell (lt_of_block (show w.heap[R]? = _ from HX.out))]
    exact words_cell HX.out j v (by simpa using hj)
  case d4 => simp [wordsOf, hn]
  case d5 => exact words_one _
  · go_wp2
    go_ret
    refine ⟨M, G, rfl, mem_setRow hm X _ ?_ (by simp [zeroMS, hn]) hX, hM, hG, below_setRow hb hG _⟩
    simp [wordsOf, hn]

/-! same -/
set_option maxHeartbeats 400000 in
theorem same_yes {R S : Nat} {X : List Nat} {w : World} (h1 : IsWords w R X) (h2 : IsWords w S X) (hl : X.length ≤ 65536) :
    Calls Tryd.prog 32 #[.slice (some ⟨R, 0, none⟩) X.length X.length, .slice (some ⟨S, 0, none⟩) X.length X.length] w fun e w' => e = .returned (.bool true) ∧ ∃ m, w' = w.drewN m := by
  have H1 := words_at h1
  have H2 := words_at h2
  clear h1 h2
  generalize hn : X.length = n at *
  clear hn
  go_enter Tryd.func32, Tryd.ntmps32
  go_wp2
  go_loopw [5] (fun i wr => ∃ k : Nat, k ≤ n ∧ i = .int .i64 k ∧ Hid (∃ m, wr = w.drewN m)) (fun i _ => n - (intOf i).toNat)
  case atStart => exact ⟨0, Nat.zero_le _, rfl, 0, rfl⟩
  case round =>
    obtain ⟨k, hk, rfl, hW⟩ := hrel
    by_cases hkl : k < n
    · have hc1 : wr.cell? ⟨R, k, none⟩ = some (.int .u64 (X.getD k 0 : Nat)) := by obtain ⟨m, rfl⟩ := hW.out; exact H1 k hkl
      have hc2 : wr.cell? ⟨S, k, none⟩ = some (.int .u64 (X.getD k 0 : Nat)) := by obtain ⟨m, rfl⟩ := hW.out; exact H2 k hkl
      clear H1 H2
      generalize X.getD k 0 = v at *
      go_wp2_with fail
      go_quiet (fail)
      go_wp2
      go_roundw
      case rel => exact ⟨k + 1, by omega, by go_num, drew_on hW _⟩
      case measure => simp [intOf]; omega
    · have hkn : k = n := by omega
      subst hkn
      clear H1 H2
      go_wp2
      go_ret
      exact ⟨rfl, hW.out⟩

/-! Copy -/
theorem copy_mem {w w1 : World} {M G R : Nat} {s : MS} (h : IsMem w M G s) (hr : IsWords w1 R s.X) (hb : Below w.heap.size w w1) (o : Obj)
    (ho : o = .cells #[.slice (some ⟨R, 0, none⟩) s.X.length s.X.length, .int .i64 s.t, .int .i64 s.k, .int .i64 s.a, .int .u64 s.p, .int .u64 s.q] 92 (0, 0)) :
    IsMem (w1.alloc o) w1.heap.size R s ∧ Below w.heap.size w (w1.alloc o) := by
  have hlt : R < w1.heap.size := lt_of_block hr
  refine ⟨⟨?_, ?_, by omega, h.fits⟩, hb.alloc hb.size o⟩
  · rw [heap_new, ho]
  · rw [Below.heap_alloc _ _ _ hlt]; exact hr

end Go.Proofs.YtjbjijkkmlehgaaDoor.Mm
