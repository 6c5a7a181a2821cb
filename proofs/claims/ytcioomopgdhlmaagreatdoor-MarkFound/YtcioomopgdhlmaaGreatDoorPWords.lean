/- The contract of the reference's Words: all words, one behind the other. -/
import Derived.Test.YtcioomopgdhlmaaGreatDoorPA
namespace Go.Proofs.YtcioomopgdhlmaaGreatDoor
open Go.RowKit

/-- A kind's name. -/
def nb (k : Nat) : ByteArray := match k with
  | 0 => ⟨#[99, 108, 111, 99, 107]⟩
  | 1 => ⟨#[101, 112, 111, 99, 104]⟩
  | 2 => ⟨#[103, 114, 97, 121, 115]⟩
  | 3 => ⟨#[116, 111, 112]⟩
  | 4 => ⟨#[112, 105, 110]⟩
  | 5 => ⟨#[101, 110, 116, 114, 121]⟩
  | 6 => ⟨#[118, 105, 101, 119]⟩
  | 7 => ⟨#[115, 116, 97, 114, 116]⟩
  | 8 => ⟨#[104, 101, 97, 100, 101, 114]⟩
  | 9 => ⟨#[108, 105, 110, 107]⟩
  | _ => ⟨#[98, 111, 100, 121]⟩

def cellsOf (t : Nat × Nat × Nat) : List Value := [.string (nb t.1), .int .i64 (t.2.1 : Nat), .int .i64 (t.2.2 : Nat)]
def flat (C D B n : Nat) : List Value := (List.range n).flatMap fun p => cellsOf (wat C D B p)

theorem flat_succ (C D B n : Nat) : flat C D B (n + 1) = flat C D B n ++ cellsOf (wat C D B n) := by simp [flat, List.range_succ]
theorem flat_length (C D B n : Nat) : (flat C D B n).length = n * 3 := by
  induction n with
  | zero => rfl
  | succ n ih => rw [flat_succ, List.length_append, ih]; simp [cellsOf]; omega
theorem flat_get (C D B n p j : Nat) (hp : p < n) (hj : j < 3) : (flat C D B n)[p * 3 + j]? = (cellsOf (wat C D B p))[j]? := by
  induction n with
  | zero => omega
  | succ n ih =>
    rw [flat_succ]
    by_cases h : p < n
    · rw [List.getElem?_append_left (by rw [flat_length]; omega)]; exact ih h
    · have : p = n := by omega
      subst this
      rw [List.getElem?_append_right (by rw [flat_length]; omega), flat_length]
      congr 1; omega
theorem flat_one {C D B n : Nat} {k x y : Nat} (h : wat C D B n = (k, x, y)) : flat C D B (n + 1) = flat C D B n ++ [.string (nb k), .int .i64 (x : Nat), .int .i64 (y : Nat)] := by
  rw [flat_succ, h]; rfl
theorem flat_one0 {C D B n : Nat} {k x : Nat} (h : wat C D B n = (k, x, 0)) : flat C D B (n + 1) = flat C D B n ++ [.string (nb k), .int .i64 (x : Nat), .int .i64 0] := by
  rw [flat_succ, h]; rfl
theorem flat_two {C D B n : Nat} {k x k2 x2 : Nat} (h : wat C D B n = (k, x, 0)) (h2 : wat C D B (n + 1) = (k2, x2, 0)) : flat C D B (n + 2) = flat C D B n ++ [.string (nb k), .int .i64 (x : Nat), .int .i64 0, .string (nb k2), .int .i64 (x2 : Nat), .int .i64 0] := by
  rw [flat_succ, h2, flat_succ, h, List.append_assoc]; rfl

/-- All that is known of the world while the words are laid: the list so far, the config, and that nothing elder has changed. -/
structure St (w wr : World) (s a c d g k : Int) (v : Value) (n : Nat) (xs : List Value) : Prop where
  own : wr.ownsRow (w.heap.size + 1) 69 3 v n xs
  cfg : IsCfg wr w.heap.size s a c d g k
  bel : Below w.heap.size w wr

theorem St.step {w wr w1 : World} {s a c d g k : Int} {v v' : Value} {n m : Nat} {xs news : List Value} (h : St w wr s a c d g k v n xs) (o : Obj)
    (hown : w1.ownsRow (w.heap.size + 1) 69 3 v' (n + m) (xs ++ news)) (hg : (wr.alloc o).grownBy w1 v.ownBlock) : St w w1 s a c d g k v' (n + m) (xs ++ news) := by
  have hb : ∀ i, i ≤ w.heap.size → w1.heap[i]? = wr.heap[i]? := fun i hi => by
    have hlt := h.cfg.lt
    rw [hg.block i (by simp; omega) (fun e => by have := h.own.lt i e.symm; omega)]
    exact (alloc_below wr o).block i (by omega)
  refine ⟨hown, ?_, ?_⟩
  · show w1.heap[w.heap.size]? = _
    rw [hb _ (Nat.le_refl _)]; exact h.cfg
  · exact ⟨hg.os.trans h.bel.os, hg.tape.trans h.bel.tape, hg.output.trans h.bel.output, Nat.le_trans h.bel.size (Nat.le_trans (by simp) hg.size), fun i hi => (hb i (by omega)).trans (h.bel.block i hi)⟩

theorem own_below {w w' : World} {base : Nat} {e : TypeId} {size : Nat} {v : Value} {n : Nat} {xs : List Value} (h : w.ownsRow base e size v n xs) (b : Below w.heap.size w w') : w'.ownsRow base e size v n xs := by
  refine ⟨h.1, ?_⟩
  rcases h.2 with hn | ⟨g, cap, cur, rfl, hb, hgg, rest⟩
  · exact .inl hn
  · exact .inr ⟨g, cap, cur, rfl, hb, (b.block g (lt_of_block hgg)).trans hgg, rest⟩
theorem St.below {w wr w1 : World} {s a c d g k : Int} {v : Value} {n : Nat} {xs : List Value} (h : St w wr s a c d g k v n xs) (b : Below wr.heap.size wr w1) : St w w1 s a c d g k v n xs :=
  ⟨own_below h.own b, h.cfg.below b, h.bel.trans (b.mono h.bel.size)⟩

theorem st0 {w w1 : World} {s a c d g k : Int} (C D B : Nat) (hc : IsCfg w1 w.heap.size s a c d g k) (hb : Below w.heap.size w w1) :
    St w (w1.alloc (.cells #[.string (nb 0), .int .i64 0, .int .i64 0, .string (nb 1), .int .i64 0, .int .i64 0, .string (nb 2), .int .i64 0, .int .i64 0, .string (nb 3), .int .i64 0, .int .i64 0] 69)) s a c d g k (.slice (some ⟨w1.heap.size, 0, none⟩) 4 4) 4 (flat C D B 4) :=
  ⟨⟨flat_length C D B 4, .inr ⟨w1.heap.size, 4, _, rfl, hc.lt, (MapKept.heap_alloc w1 _).1, Nat.le_refl _, by decide, rfl, rfl⟩⟩, hc.below (alloc_below w1 _), hb.alloc hb.size _⟩

theorem add_none (b off i : Nat) : (⟨b, off, none⟩ : Addr).add i = ⟨b, off + i, none⟩ := by
  by_cases h : i = 0
  · subst h; simp [Addr.add]
  · simp [Addr.add, h]
theorem new_at (w : World) (c : Array Value) (t : TypeId) (i : Nat) (v : Value) (h : c[i]? = some v) : (w.alloc (.cells c t)).cell? ⟨w.heap.size, i, none⟩ = some v := by
  have e : (w.alloc (.cells c t)).heap[w.heap.size]? = some (.cells c t) := (MapKept.heap_alloc w _).1
  unfold World.cell?
  simp only [e]
  exact h
theorem new_news (w : World) (arr : Array Value) (t : TypeId) (j : Nat) (u : Value) (h : arr.toList[j]? = some u) : (w.alloc (.cells arr t)).cell? ((⟨w.heap.size, 0, none⟩ : Addr).add j) = some u := by
  rw [add_none, Nat.zero_add]
  exact new_at w arr t j u (by simpa using h)
theorem one3 (k : Nat) (x y : Int) : ∀ u ∈ [Value.string (nb k), .int .i64 x, .int .i64 y], u.oneCell' = true := by
  intro u hu
  simp only [List.mem_cons, List.not_mem_nil, or_false] at hu
  rcases hu with rfl | rfl | rfl <;> rfl
theorem one6 (k l : Nat) (x y z t : Int) : ∀ u ∈ [Value.string (nb k), .int .i64 x, .int .i64 y, .string (nb l), .int .i64 z, .int .i64 t], u.oneCell' = true := by
  intro u hu
  simp only [List.mem_cons, List.not_mem_nil, or_false] at hu
  rcases hu with rfl | rfl | rfl | rfl | rfl | rfl <;> rfl

theorem Tryz.info69 : (Tryz.prog.info? 69).map (fun i => (i.zero, i.size, i.bytes)) = some (some (.agg #[.string ⟨#[]⟩, .int .i64 0, .int .i64 0]), 3, 32) := by kernel_rfl

theorem wat_header (C D B n : Nat) : wat C D B (4 + C + C * D + 2 * C + n * (2 + B)) = (8, n, 0) := wat_slot C D B n 0 (by omega)
theorem wat_link (C D B n : Nat) : wat C D B (4 + C + C * D + 2 * C + n * (2 + B) + 1) = (9, n, 0) := wat_slot C D B n 1 (by omega)
theorem wat_body (C D B n m : Nat) (hm : m < B) : wat C D B (4 + C + C * D + 2 * C + n * (2 + B) + (m + 2)) = (10, n, m) := by
  rw [wat_slot C D B n (m + 2) (by omega), if_neg (by omega), if_neg (by omega)]; simp

set_option maxHeartbeats 4000000 in
theorem words_any (C D S B : Nat) (a g k : Int) (hC : C ≤ 8) (hD : D ≤ 16) (hS : S ≤ 64) (hB : bsI a = (B : Int)) (hB8 : B ≤ 8) (w : World) :
    Calls Tryz.prog 27 #[.agg (cs S a C D g k)] w fun e w' => ∃ v, e = .returned v ∧ St w w' S a C D g k v (nW C D B S) (flat C D B (nW C D B S)) := by
  obtain ⟨i0, hi, hz0, hz1, hz2⟩ := info_parts Tryz.info69
  have cr := room_any S a C D g k
  rw [hB] at cr
  have hcd : C * D ≤ 128 := Nat.mul_le_mul hC hD
  have bel := alloc_below w (.cells #[.int .i64 S, .int .i64 a, .int .i64 C, .int .i64 D, .int .i64 g, .int .i64 k] 23)
  have hh := cfg_new w S a C D g k
  go_enter Tryz.func27, Tryz.ntmps27
  go_upto_region 1 with fail
  generalize w.alloc (.cells #[.int .i64 S, .int .i64 a, .int .i64 C, .int .i64 D, .int .i64 g, .int .i64 k] 23) = w1 at *
  have s0 := st0 C D B hh bel
  clear hh bel
  go_wp2
  go_loopw [3, 4] (fun v i wr => ∃ n : Nat, n ≤ C ∧ i = .int .i64 n ∧ St w wr S a C D g k v (4 + n) (flat C D B (4 + n))) (fun _ i _ => C - (intOf i).toNat)
  case atStart => exact ⟨0, Nat.zero_le _, rfl, s0⟩
  case round =>
    clear s0
    obtain ⟨n, hn, rfl, st⟩ := hrel
    obtain ⟨l0, l1, l2, l3, l4, l5⟩ := st.cfg.cells
    by_cases hnl : n < C
    · go_wp2_with (first
        | (at_builtin; refine wpList_append_own _ rfl _ _ 54 rfl (w.heap.size + 1) 69 i0 _ 3 32 Tryz.underlying54 hi hz0 hz1 hz2 rfl (by decide) _ _ _ rfl (st.own.alloc _) ⟨_, 0, none⟩ 1 1 [.string (nb 4), .int .i64 (n : Nat), .int .i64 0] rfl rfl (fun j u hj => new_news _ _ _ j u hj) (one3 4 _ _) ?c3 ?c4 ?c5 ?_))
      case c3 => unfold maxLen; omega
      case c4 => omega
      case c5 => have := st.cfg.lt; simp; omega
      · intro v' w2 hown hgrow _
        have st' := st.step _ hown hgrow
        clear hown hgrow l0 l1 l2 l3 l4 l5 st
        rw [← flat_one0 (wat_pin C D B n hnl)] at st'
        go_wp2
        go_roundw
        case rel => exact ⟨n + 1, by omega, by go_num, st'⟩
        case measure => simp [intOf]; omega
    · have hnC : n = C := by omega
      rw [hnC] at st ⊢
      clear hnl hn hnC n
      go_wp2
      go_loopw [3, 5] (fun v i wr => ∃ n : Nat, n ≤ C ∧ i = .int .i64 n ∧ St w wr S a C D g k v (4 + C + n * D) (flat C D B (4 + C + n * D))) (fun _ i _ => C - (intOf i).toNat)
      case atStart => exact ⟨0, Nat.zero_le _, rfl, by rw [Nat.zero_mul]; exact st⟩
      case round =>
        clear st l0 l1 l2 l3 l4 l5
        obtain ⟨n, hn, rfl, st⟩ := hrel
        obtain ⟨l0, l1, l2, l3, l4, l5⟩ := st.cfg.cells
        by_cases hnl : n < C
        · go_wp2
          go_loopw [3, 6] (fun v i wr => ∃ m : Nat, m ≤ D ∧ i = .int .i64 m ∧ St w wr S a C D g k v (4 + C + n * D + m) (flat C D B (4 + C + n * D + m))) (fun _ i _ => D - (intOf i).toNat)
          case atStart => exact ⟨0, Nat.zero_le _, rfl, st⟩
          case round =>
            clear st l0 l1 l2 l3 l4 l5
            obtain ⟨m, hm, rfl, st⟩ := hrel
            obtain ⟨l0, l1, l2, l3, l4, l5⟩ := st.cfg.cells
            by_cases hml : m < D
            · have hb := mul_lt C D n m hnl hml
              go_wp2_with (first
                | (at_builtin; refine wpList_append_own _ rfl _ _ 54 rfl (w.heap.size + 1) 69 i0 _ 3 32 Tryz.underlying54 hi hz0 hz1 hz2 rfl (by decide) _ _ _ rfl (st.own.alloc _) ⟨_, 0, none⟩ 1 1 [.string (nb 5), .int .i64 (n : Nat), .int .i64 (m : Nat)] rfl rfl (fun j u hj => new_news _ _ _ j u hj) (one3 5 _ _) ?c3 ?c4 ?c5 ?_))
              case c3 => unfold maxLen; omega
              case c4 => omega
              case c5 => have := st.cfg.lt; simp; omega
              · intro v' w2 hown hgrow _
                have st' := st.step _ hown hgrow
                clear hown hgrow l0 l1 l2 l3 l4 l5 st
                rw [← flat_one (wat_entry C D B n m hnl hml)] at st'
                go_wp2
                go_roundw
                case rel => exact ⟨m + 1, by omega, by go_num, st'⟩
                case measure => simp [intOf]; omega
            · have hmD : m = D := by omega
              rw [hmD] at st ⊢
              clear hml hm hmD m
              have e : 4 + C + n * D + D = 4 + C + (n + 1) * D := by rw [Nat.succ_mul n]; omega
              rw [e] at st
              go_wp2
              go_roundw
              case rel => exact ⟨n + 1, by omega, by go_num, st⟩
              case measure => simp [intOf]; omega
        · have hnC : n = C := by omega
          rw [hnC] at st ⊢
          clear hnl hn hnC n
          go_wp2
          go_loopw [3, 7] (fun v i wr => ∃ n : Nat, n ≤ C ∧ i = .int .i64 n ∧ St w wr S a C D g k v (4 + C + C * D + 2 * n) (flat C D B (4 + C + C * D + 2 * n))) (fun _ i _ => C - (intOf i).toNat)
          case atStart => exact ⟨0, Nat.zero_le _, rfl, st⟩
          case round =>
            clear st l0 l1 l2 l3 l4 l5
            obtain ⟨n, hn, rfl, st⟩ := hrel
            obtain ⟨l0, l1, l2, l3, l4, l5⟩ := st.cfg.cells
            by_cases hnl : n < C
            · go_wp2_with (first
                | (at_builtin; refine wpList_append_own _ rfl _ _ 54 rfl (w.heap.size + 1) 69 i0 _ 3 32 Tryz.underlying54 hi hz0 hz1 hz2 rfl (by decide) _ _ _ rfl (st.own.alloc _) ⟨_, 0, none⟩ 2 2 [.string (nb 6), .int .i64 (n : Nat), .int .i64 0, .string (nb 7), .int .i64 (n : Nat), .int .i64 0] rfl rfl (fun j u hj => new_news _ _ _ j u hj) (one6 6 7 _ _ _ _) ?c3 ?c4 ?c5 ?_))
              case c3 => unfold maxLen; omega
              case c4 => omega
              case c5 => have := st.cfg.lt; simp; omega
              · intro v' w2 hown hgrow _
                have st' := st.step _ hown hgrow
                clear hown hgrow l0 l1 l2 l3 l4 l5 st
                rw [← flat_two (wat_view C D B n hnl) (wat_start C D B n hnl)] at st'
                go_wp2
                go_roundw
                case rel => exact ⟨n + 1, by omega, by go_num, st'⟩
                case measure => simp [intOf]; omega
            · have hnC : n = C := by omega
              rw [hnC] at st ⊢
              clear hnl hn hnC n
              go_wp2
              go_loopw [3, 8] (fun v i wr => ∃ n : Nat, n ≤ S ∧ i = .int .i64 n ∧ St w wr S a C D g k v (4 + C + C * D + 2 * C + n * (2 + B)) (flat C D B (4 + C + C * D + 2 * C + n * (2 + B)))) (fun _ i _ => S - (intOf i).toNat)
              case atStart => exact ⟨0, Nat.zero_le _, rfl, by rw [Nat.zero_mul]; exact st⟩
              case round =>
                clear st l0 l1 l2 l3 l4 l5
                obtain ⟨n, hn, rfl, st⟩ := hrel
                obtain ⟨l0, l1, l2, l3, l4, l5⟩ := st.cfg.cells
                have hnb : n * (2 + B) ≤ 640 := Nat.mul_le_mul (by omega : n ≤ 64) (by omega : 2 + B ≤ 10)
                by_cases hnl : n < S
                · go_wp2_with (first
                    | (at_builtin; refine wpList_append_own _ rfl _ _ 54 rfl (w.heap.size + 1) 69 i0 _ 3 32 Tryz.underlying54 hi hz0 hz1 hz2 rfl (by decide) _ _ _ rfl (st.own.alloc _) ⟨_, 0, none⟩ 2 2 [.string (nb 8), .int .i64 (n : Nat), .int .i64 0, .string (nb 9), .int .i64 (n : Nat), .int .i64 0] rfl rfl (fun j u hj => new_news _ _ _ j u hj) (one6 8 9 _ _ _ _) ?c3 ?c4 ?c5 ?_))
                  case c3 => unfold maxLen; omega
                  case c4 => omega
                  case c5 => have := st.cfg.lt; simp; omega
                  · intro v' w2 hown hgrow _
                    have st' := st.step _ hown hgrow
                    clear hown hgrow l0 l1 l2 l3 l4 l5 st
                    rw [← flat_two (C := C) (D := D) (B := B) (n := 4 + C + C * D + 2 * C + n * (2 + B)) (wat_header C D B n) (wat_link C D B n)] at st'
                    go_wp2
                    go_loopw [3, 9] (fun v i wr => ∃ m : Nat, m ≤ B ∧ i = .int .i64 m ∧ St w wr S a C D g k v (4 + C + C * D + 2 * C + n * (2 + B) + (m + 2)) (flat C D B (4 + C + C * D + 2 * C + n * (2 + B) + (m + 2)))) (fun _ i _ => B - (intOf i).toNat)
                    case atStart => exact ⟨0, Nat.zero_le _, rfl, st'⟩
                    case round =>
                      clear st'
                      obtain ⟨m, hm, rfl, st⟩ := hrel
                      obtain ⟨l0, l1, l2, l3, l4, l5⟩ := st.cfg.cells
                      by_cases hml : m < B
                      · go_wp2_with (first
                          | (go_at_call 37; refine (cr _).mono ?_; rintro e w3 ⟨rfl, b⟩; replace st := st.below b; obtain ⟨l0, l1, l2, l3, l4, l5⟩ := st.cfg.cells)
                          | (at_builtin; refine wpList_append_own _ rfl _ _ 54 rfl (w.heap.size + 1) 69 i0 _ 3 32 Tryz.underlying54 hi hz0 hz1 hz2 rfl (by decide) _ _ _ rfl (st.own.alloc _) ⟨_, 0, none⟩ 1 1 [.string (nb 10), .int .i64 (n : Nat), .int .i64 (m : Nat)] rfl rfl (fun j u hj => new_news _ _ _ j u hj) (one3 10 _ _) ?c3 ?c4 ?c5 ?_))
                        case c3 => unfold maxLen; omega
                        case c4 => omega
                        case c5 => have := st.cfg.lt; simp; omega
                        · intro v' w2 hown hgrow _
                          have st' := st.step _ hown hgrow
                          clear hown hgrow l0 l1 l2 l3 l4 l5 st
                          rw [← flat_one (C := C) (D := D) (B := B) (n := 4 + C + C * D + 2 * C + n * (2 + B) + (m + 2)) (wat_body C D B n m hml)] at st'
                          go_wp2
                          go_roundw
                          case rel => exact ⟨m + 1, by omega, by go_num, st'⟩
                          case measure => simp [intOf]; omega
                      · have hmD : m = B := by omega
                        rw [hmD] at st ⊢
                        clear hml hm hmD m
                        have e : 4 + C + C * D + 2 * C + n * (2 + B) + (B + 2) = 4 + C + C * D + 2 * C + (n + 1) * (2 + B) := by rw [Nat.succ_mul n]; omega
                        rw [e] at st
                        go_wp2_with (first
                          | (go_at_call 37; refine (cr _).mono ?_; rintro e w3 ⟨rfl, b⟩; replace st := st.below b; obtain ⟨l0, l1, l2, l3, l4, l5⟩ := st.cfg.cells))
                        go_roundw
                        case rel => exact ⟨n + 1, by omega, by go_num, st⟩
                        case measure => simp [intOf]; omega
                · have hnC : n = S := by omega
                  rw [hnC] at st ⊢
                  clear hnl hn hnC hnb n
                  go_wp2
                  go_ret
                  exact ⟨_, rfl, st⟩

/-- The list of all words lies in a row. -/
def IsL (w : World) (R C D B n : Nat) : Prop := ∃ cur, w.heap[R]? = some (.cells cur 69 (0, 0)) ∧ cur.toList.take (n * 3) = flat C D B n

theorem IsL.lt {w : World} {R C D B n : Nat} (h : IsL w R C D B n) : R < w.heap.size := by obtain ⟨_, h, _⟩ := h; exact lt_of_block h
theorem IsL.below {w w' : World} {R C D B n : Nat} (h : IsL w R C D B n) (b : Below w.heap.size w w') : IsL w' R C D B n := by
  have hl := h.lt
  obtain ⟨cur, h1, h2⟩ := h
  exact ⟨cur, (b.block R hl).trans h1, h2⟩
theorem IsL.cell {w : World} {R C D B n : Nat} (h : IsL w R C D B n) (p j : Nat) (hp : p < n) (hj : j < 3) : w.cell? ⟨R, p * 3 + j, none⟩ = (cellsOf (wat C D B p))[j]? := by
  obtain ⟨cur, h1, h2⟩ := h
  have e : w.cell? ⟨R, p * 3 + j, none⟩ = cur[p * 3 + j]? := by simp [World.cell?, h1]
  rw [e, ← flat_get C D B n p j hp hj, ← h2, List.getElem?_take_of_lt (by omega)]
  simp
theorem IsL.at {w : World} {R C D B n : Nat} (h : IsL w R C D B n) (p : Nat) (hp : p < n) :
    w.cell? ⟨R, p * 3, none⟩ = some (.string (nb (wat C D B p).1)) ∧ w.cell? ⟨R, p * 3 + 1, none⟩ = some (.int .i64 ((wat C D B p).2.1 : Nat)) ∧ w.cell? ⟨R, p * 3 + 2, none⟩ = some (.int .i64 ((wat C D B p).2.2 : Nat)) :=
  ⟨h.cell p 0 hp (by omega), h.cell p 1 hp (by omega), h.cell p 2 hp (by omega)⟩

theorem words_r (C D S B : Nat) (a g k : Int) (hC : C ≤ 8) (hD : D ≤ 16) (hS : S ≤ 64) (hB : bsI a = (B : Int)) (hB8 : B ≤ 8) (w : World) :
    Calls Tryz.prog 27 #[.agg (cs S a C D g k)] w fun e w' => ∃ R cap, e = .returned (.slice (some ⟨R, 0, none⟩) (nW C D B S) cap) ∧ IsL w' R C D B (nW C D B S) ∧ w.heap.size ≤ R ∧ Below w.heap.size w w' := by
  refine (words_any C D S B a g k hC hD hS hB hB8 w).mono fun e w' ⟨v, he, st⟩ => ?_
  rcases st.own.2 with ⟨_, hn⟩ | ⟨g', cap, cur, rfl, hb, hg, _, _, _, ht⟩
  · unfold nW at hn; omega
  · exact ⟨g', cap, he, ⟨cur, hg, ht⟩, by omega, st.bel⟩
end Go.Proofs.YtcioomopgdhlmaaGreatDoor
