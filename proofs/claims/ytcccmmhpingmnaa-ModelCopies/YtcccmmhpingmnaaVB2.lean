/- New. -/
import Derived.Test.YtcccmmhpingmnaaVA
import Derived.Deep.RegionHeld3
namespace Go.Proofs.Ytcccmmhpingmnaa
open Go.RowKit

/-- Clients' cells: the first j have their map. -/
def clA (bs : Nat → Nat) (j n : Nat) : Array Value := Array.ofFn (n := 3 * n) fun q => if q.1 % 3 = 0 then (if q.1 / 3 < j then Value.map (some (bs (q.1 / 3))) else Value.map none) else if q.1 % 3 = 1 then Value.int .u64 0 else Value.slice none 0 0
theorem clA_at (bs : Nat → Nat) (j n q : Nat) : (clA bs j n)[q]? = if q < 3 * n then some (if q % 3 = 0 then (if q / 3 < j then Value.map (some (bs (q / 3))) else Value.map none) else if q % 3 = 1 then Value.int .u64 0 else Value.slice none 0 0) else none := by
  unfold clA
  rw [Array.getElem?_ofFn]
  by_cases h : q < 3 * n
  · rw [dif_pos h, if_pos h]
  · rw [dif_neg h, if_neg h]
theorem clA_size (bs : Nat → Nat) (j n : Nat) : (clA bs j n).size = 3 * n := by simp [clA]
theorem clA_made (n : Nat) : madeCells #[.map none, .int .u64 0, .slice none 0 0] (n * 3) = clA (fun _ => 0) 0 n := by
  apply Array.ext_getElem?
  intro q
  rw [clA_at]
  by_cases hq : q < 3 * n
  · rw [if_pos hq]
    have hq' : q < n * 3 := by omega
    have h3 : q % 3 = 0 ∨ q % 3 = 1 ∨ q % 3 = 2 := by omega
    unfold madeCells
    rw [Array.getElem?_map, Array.getElem?_range, if_pos hq']
    show some (#[Value.map none, .int .u64 0, .slice none 0 0][q % 3]!) = _
    rcases h3 with h | h | h <;> rw [h] <;> rfl
  · rw [if_neg hq]
    unfold madeCells
    rw [Array.getElem?_map, Array.getElem?_range, if_neg (by omega)]
    rfl
theorem cl_info : (Try.prog.info? 72).map (fun i => (i.zero, i.size, i.bytes)) = some (some (.agg #[.map none, .int .u64 0, .slice none 0 0]), 3, 40) := by kernel_rfl
theorem clA_set {bs : Nat → Nat} {j n b : Nat} (h : j < n) : (clA bs j n).setIfInBounds (j * 3) (.map (some b)) = clA (fun i => if i = j then b else bs i) (j + 1) n := by
  apply Array.ext_getElem?
  intro q
  rw [Array.getElem?_setIfInBounds, clA_at, clA_at, clA_size]
  by_cases hq : j * 3 = q
  · subst hq
    simp [show j * 3 < 3 * n by omega]
  · rw [if_neg hq]
    by_cases hn : q < 3 * n
    · simp only [if_pos hn, Option.some.injEq]
      by_cases h0 : q % 3 = 0
      · have hj : q / 3 ≠ j := by omega
        have e : (q / 3 < j + 1) = (q / 3 < j) := by apply propext; omega
        simp only [h0, if_true, e, hj, if_false]
      · simp only [if_neg h0]
    · simp only [if_neg hn]
theorem clA_two (bs : Nat → Nat) : clA bs 2 2 = #[.map (some (bs 0)), .int .u64 0, .slice none 0 0, .map (some (bs 1)), .int .u64 0, .slice none 0 0] := by
  apply Array.ext_getElem?
  intro q
  rw [clA_at]
  by_cases hq : q < 6
  · have hc : q = 0 ∨ q = 1 ∨ q = 2 ∨ q = 3 ∨ q = 4 ∨ q = 5 := by omega
    rcases hc with rfl | rfl | rfl | rfl | rfl | rfl <;> simp
  · rw [if_neg (by omega)]
    symm
    simp; omega

theorem nw_one (w : World) (o1 o2 o3 : Obj) : (((w.alloc o1).alloc o2).alloc o3).drew.heap[w.heap.size]? = some o1 ∧ (((w.alloc o1).alloc o2).alloc o3).drew.heap[w.heap.size + 1]? = some o2 ∧ (((w.alloc o1).alloc o2).alloc o3).drew.heap[w.heap.size + 1 + 1]? = some o3 ∧ (((w.alloc o1).alloc o2).alloc o3).drew.heap.size = w.heap.size + 3 := by
  have e1 : (w.alloc o1).heap.size = w.heap.size + 1 := by simp
  have e2 : ((w.alloc o1).alloc o2).heap.size = w.heap.size + 1 + 1 := by simp
  have h1 := new_obj w o1
  have h2 := new_obj (w.alloc o1) o2
  have h3 := new_obj ((w.alloc o1).alloc o2) o3
  rw [e1] at h2
  rw [e2] at h3
  have k1 := (alloc_below (w.alloc o1) o2).block w.heap.size (by omega)
  have k2 := (alloc_below ((w.alloc o1).alloc o2) o3).block w.heap.size (by omega)
  have k3 := (alloc_below ((w.alloc o1).alloc o2) o3).block (w.heap.size + 1) (by omega)
  refine ⟨(k2.trans k1).trans h1, k3.trans h2, h3, ?_⟩
  show (((w.alloc o1).alloc o2).alloc o3).heap.size = _
  simp
/-- While New makes a map for each client. -/
structure Nw (w3 wr : World) (c0 B Bc bG : Nat) (bs : Nat → Nat) (j nc : Nat) (s a d g k : Int) : Prop where
  hB : wr.heap[B]? = some (.cells #[.int .i64 s, .int .i64 a, .int .i64 (nc : Nat), .int .i64 d, .int .i64 g, .int .i64 k, .slice none 0 0, .slice (some ⟨Bc, 0, none⟩) nc nc, .map (some bG)] 69 (0, 0))
  hc : wr.heap[Bc]? = some (.cells (clA bs j nc) 72 (0, 0))
  hG : wr.heap[bG]? = some (.map #[] 0)
  hm : ∀ i, i < j → wr.heap[bs i]? = some (.map #[] 0)
  lt : c0 ≤ Bc ∧ c0 ≤ bG ∧ c0 ≤ B
  inj : ∀ i i', i < j → i' < j → bs i = bs i' → i = i'
  old : ∀ i, i < j → w3.heap.size ≤ bs i
  bel : Below c0 w3 wr
/-- What New answers for a right config. -/
def NwR (w w' : World) (B nc : Nat) (s a d g k : Int) : Prop := ∃ Bc bG bs, Below w.heap.size w w' ∧
      w'.heap[B]? = some (.cells #[.int .i64 s, .int .i64 a, .int .i64 (nc : Nat), .int .i64 d, .int .i64 g, .int .i64 k, .slice none 0 0, .slice (some ⟨Bc, 0, none⟩) nc nc, .map (some bG)] 69 (0, 0)) ∧
      w'.heap[Bc]? = some (.cells (clA bs nc nc) 72 (0, 0)) ∧ w'.heap[bG]? = some (.map #[] 0) ∧ (∀ i, i < nc → w'.heap[bs i]? = some (.map #[] 0)) ∧
      (w.heap.size ≤ B ∧ w.heap.size ≤ Bc ∧ w.heap.size ≤ bG ∧ ∀ i, i < nc → w.heap.size ≤ bs i) ∧ (∀ i j, i < nc → j < nc → bs i = bs j → i = j) ∧ ∀ i, i < nc → bs i ≠ bG
theorem Nw.rd {w3 wr : World} {c0 B Bc bG : Nat} {bs : Nat → Nat} {j nc : Nat} {s a d g k : Int} (h : Nw w3 wr c0 B Bc bG bs j nc s a d g k) : wr.cell? ⟨B, 7, none⟩ = some (.slice (some ⟨Bc, 0, none⟩) nc nc) := by
  simp [World.cell?, h.hB]
theorem Nw.cellj {w3 wr : World} {c0 B Bc bG : Nat} {bs : Nat → Nat} {j nc : Nat} {s a d g k : Int} (h : Nw w3 wr c0 B Bc bG bs j nc s a d g k) (hj : j < nc) : wr.cell? ⟨Bc, j * 3, none⟩ = some (.map none) := by
  simp only [World.cell?, h.hc]
  show (clA bs j nc)[j * 3]? = _
  rw [clA_at, if_pos (by omega), if_pos (by omega), if_neg (by omega)]
theorem Nw.next {w3 wr : World} {c0 B Bc bG : Nat} {bs : Nat → Nat} {j nc : Nat} {s a d g k : Int} (h : Nw w3 wr c0 B Bc bG bs j nc s a d g k) (hj : j < nc) (hb : Bc < w3.heap.size) (hb2 : B ≠ Bc) (hb3 : bG ≠ Bc) :
    Nw w3 ((wr.alloc (.map #[] 0)).setCell ⟨Bc, j * 3, none⟩ (.map (some wr.heap.size))) c0 B Bc bG (fun i => if i = j then wr.heap.size else bs i) (j + 1) nc s a d g k := by
  have hs := h.bel.size
  have al : ∀ i, i < wr.heap.size → (wr.alloc (.map #[] 0)).heap[i]? = wr.heap[i]? := fun i hi => (alloc_below wr _).block i hi
  have st : ∀ i, i ≠ Bc → ((wr.alloc (.map #[] 0)).setCell ⟨Bc, j * 3, none⟩ (.map (some wr.heap.size))).heap[i]? = (wr.alloc (.map #[] 0)).heap[i]? := fun i hi => Below.heap_setCell _ _ _ _ hi
  have keep : ∀ i o, i ≠ Bc → wr.heap[i]? = some o → ((wr.alloc (.map #[] 0)).setCell ⟨Bc, j * 3, none⟩ (.map (some wr.heap.size))).heap[i]? = some o := fun i o hi ho => (st i hi).trans ((al i (lt_of_block ho)).trans ho)
  exact {
    hB := keep _ _ hb2 h.hB
    hc := by
      have := heap_put (o := j * 3) ((al Bc (lt_of_block h.hc)).trans h.hc) (.map (some wr.heap.size))
      rw [clA_set hj] at this
      exact this
    hG := keep _ _ hb3 h.hG
    hm := fun i hi => by
      by_cases hij : i = j
      · show _[(if i = j then wr.heap.size else bs i)]? = _
        rw [if_pos hij]
        exact (st _ (by omega)).trans (new_obj wr _)
      · show _[(if i = j then wr.heap.size else bs i)]? = _
        rw [if_neg hij]
        have := h.old i (by omega)
        exact keep _ _ (by omega) (h.hm i (by omega))
    lt := h.lt
    inj := fun i i' hi hi' e => by
      have e' : (if i = j then wr.heap.size else bs i) = (if i' = j then wr.heap.size else bs i') := e
      by_cases h1 : i = j <;> by_cases h2 : i' = j
      · omega
      · rw [if_pos h1, if_neg h2] at e'
        have := lt_of_block (h.hm i' (by omega))
        omega
      · rw [if_neg h1, if_pos h2] at e'
        have := lt_of_block (h.hm i (by omega))
        omega
      · rw [if_neg h1, if_neg h2] at e'
        exact h.inj i i' (by omega) (by omega) e'
    old := fun i hi => by
      show _ ≤ (if i = j then wr.heap.size else bs i)
      split
      · exact hs
      · exact h.old i (by omega)
    bel := by
      have := h.lt
      exact (h.bel.trans ((alloc_below wr _).mono (by omega))).setCell (by show c0 ≤ Bc; omega) _ }
set_option maxHeartbeats 4000000 in
theorem new_any (s a d g k : Int) (nc : Nat) (hR : rightB s a nc d g k = true) (w : World) :
    Calls Try.prog 9 #[.agg (cs s a nc d g k)] w fun r w' => ∃ B, r = .returned (.pointer (some ⟨B, 0, none⟩)) ∧ NwR w w' B nc s a d g k := by
  have hnc := (rightB_iff.1 hR).2.2.1
  have hmk : ∀ wr, (Instr.makeSlice 66 (.int .i64 (nc : Nat)) (.int .i64 (nc : Nat))).run Try.prog wr = .ok (.slice (some ⟨wr.heap.size, 0, none⟩) nc nc) (wr.alloc (.cells (clA (fun _ => 0) 0 nc) 72)) := fun wr => by
    obtain ⟨i, h1, h2, h3, h4⟩ := info_parts cl_info
    have := run_makeSlice (P := Try.prog) 66 72 i _ Try.underlying66 h1 h2 .i64 .i64 (nc : Nat) (nc : Nat) (by omega) (by omega) (by rw [h3]; omega) (by rw [h4]; omega) (by omega) (w := wr)
    rw [h3, Int.toNat_natCast] at this
    rw [← clA_made]
    exact this
  have cR := right_any s a nc d g k
  rw [hR] at cR
  have hmm : ∀ wr, (Instr.makeMap 67 none).run Try.prog wr = .ok (.map (some wr.heap.size)) (wr.alloc (.map #[] 0)) := fun _ => rfl
  have hmm2 : ∀ wr, (Instr.makeMap 70 none).run Try.prog wr = .ok (.map (some wr.heap.size)) (wr.alloc (.map #[] 0)) := fun _ => rfl
  go_enter Try.func9, Try.ntmps9
  have hb0 := new_obj w (.cells #[.int .i64 s, .int .i64 a, .int .i64 (nc : Nat), .int .i64 d, .int .i64 g, .int .i64 k] 26)
  have bel0 := alloc_below w (.cells #[.int .i64 s, .int .i64 a, .int .i64 (nc : Nat), .int .i64 d, .int .i64 g, .int .i64 k] 26)
  have lt0 : w.heap.size < (w.alloc (.cells #[.int .i64 s, .int .i64 a, .int .i64 (nc : Nat), .int .i64 d, .int .i64 g, .int .i64 k] 26)).heap.size := lt_of_block hb0
  go_upto_region 1 with fail
  generalize w.alloc (.cells #[.int .i64 s, .int .i64 a, .int .i64 (nc : Nat), .int .i64 d, .int .i64 g, .int .i64 k] 26) = w1 at *
  generalize hc0 : w.heap.size = c0 at *
  replace hc0 := hid1 hc0
  have s0 : w1.cell? ⟨c0, 0, none⟩ = some (.int .i64 s) := by simp [World.cell?, hb0]
  have s1 : w1.cell? ⟨c0, 1, none⟩ = some (.int .i64 a) := by simp [World.cell?, hb0]
  have s2 : w1.cell? ⟨c0, 2, none⟩ = some (.int .i64 (nc : Nat)) := by simp [World.cell?, hb0]
  have s3 : w1.cell? ⟨c0, 3, none⟩ = some (.int .i64 d) := by simp [World.cell?, hb0]
  have s4 : w1.cell? ⟨c0, 4, none⟩ = some (.int .i64 g) := by simp [World.cell?, hb0]
  have s5 : w1.cell? ⟨c0, 5, none⟩ = some (.int .i64 k) := by simp [World.cell?, hb0]
  unfold cs at cR
  go_upto_region 3 with (go_at_call 26; with_reducible refine (cR _).mono ?_; rintro e w2 ⟨rfl, b2⟩)
  clear cR
  have bel2 := bel0.trans (b2.mono (Nat.le_of_lt (by have := hc0.out; omega)))
  have hb2 := (b2.block c0 lt0).trans hb0
  have lt2 := lt_of_block hb2
  clear bel0 hb0 lt0 b2 s0 s1 s2 s3 s4 s5
  clear w1
  have s0 : w2.cell? ⟨c0, 0, none⟩ = some (.int .i64 s) := by simp [World.cell?, hb2]
  have s1 : w2.cell? ⟨c0, 1, none⟩ = some (.int .i64 a) := by simp [World.cell?, hb2]
  have s2 : w2.cell? ⟨c0, 2, none⟩ = some (.int .i64 (nc : Nat)) := by simp [World.cell?, hb2]
  have s3 : w2.cell? ⟨c0, 3, none⟩ = some (.int .i64 d) := by simp [World.cell?, hb2]
  have s4 : w2.cell? ⟨c0, 4, none⟩ = some (.int .i64 g) := by simp [World.cell?, hb2]
  have s5 : w2.cell? ⟨c0, 5, none⟩ = some (.int .i64 k) := by simp [World.cell?, hb2]
  have hkeep : ∀ wr : World, wr.heap[c0]? = w2.heap[c0]? → wr.cell? ⟨c0, 0, none⟩ = some (.int .i64 s) ∧ wr.cell? ⟨c0, 1, none⟩ = some (.int .i64 a) ∧ wr.cell? ⟨c0, 2, none⟩ = some (.int .i64 (nc : Nat)) ∧ wr.cell? ⟨c0, 3, none⟩ = some (.int .i64 d) ∧ wr.cell? ⟨c0, 4, none⟩ = some (.int .i64 g) ∧ wr.cell? ⟨c0, 5, none⟩ = some (.int .i64 k) := fun wr e => by
    refine ⟨?_, ?_, ?_, ?_, ?_, ?_⟩ <;> simp [World.cell?, e, hb2]
  have up : ∀ (o1 o2 o3 : Obj), Below w2.heap.size w2 (((w2.alloc o1).alloc o2).alloc o3).drew := fun o1 o2 o3 => (seq_below (seq_below (alloc_below w2 o1) (alloc_below _ o2)) (alloc_below _ o3)).drew
  go_region_held (fun wr => wr.cell? ⟨c0, 0, none⟩ = some (.int .i64 s) ∧ wr.cell? ⟨c0, 1, none⟩ = some (.int .i64 a) ∧ wr.cell? ⟨c0, 2, none⟩ = some (.int .i64 (nc : Nat)) ∧ wr.cell? ⟨c0, 3, none⟩ = some (.int .i64 d) ∧ wr.cell? ⟨c0, 4, none⟩ = some (.int .i64 g) ∧ wr.cell? ⟨c0, 5, none⟩ = some (.int .i64 k)) (first | with_reducible exact ⟨s0, s1, s2, s3, s4, s5⟩ | with_reducible exact hkeep _ ((up _ _ _).block c0 lt2) | go_keep) (fail)
  · rename_i hHeld
    clear hHeld
    obtain ⟨e1, e2, e3, e4⟩ := nw_one w2 (.cells (clA (fun _ => 0) 0 nc) 72) (.map #[] 0) (.cells #[.int .i64 s, .int .i64 a, .int .i64 (nc : Nat), .int .i64 d, .int .i64 g, .int .i64 k, .slice none 0 0, .slice (some ⟨w2.heap.size, 0, none⟩) nc nc, .map (some (w2.heap.size + 1))] 69)
    have bel3 := bel2.trans ((up (.cells (clA (fun _ => 0) 0 nc) 72) (.map #[] 0) (.cells #[.int .i64 s, .int .i64 a, .int .i64 (nc : Nat), .int .i64 d, .int .i64 g, .int .i64 k, .slice none 0 0, .slice (some ⟨w2.heap.size, 0, none⟩) nc nc, .map (some (w2.heap.size + 1))] 69)).mono (Nat.le_of_lt lt2))
    generalize World.drew _ = w3 at *
    clear hkeep up s0 s1 s2 s3 s4 s5 hb2 bel2
    have hx1 : w2.heap.size < w2.heap.size + 1 := by omega
    have hx2 : w2.heap.size + 1 < w2.heap.size + 1 + 1 := by omega
    have hx3 : w2.heap.size + 1 + 1 < w3.heap.size := by omega
    clear e4
    generalize w2.heap.size + 1 + 1 = x3 at *
    generalize w2.heap.size + 1 = x2 at *
    generalize w2.heap.size = x1 at *
    clear w2
    replace hc0 := hid1 hc0.out
    have hs : Nw w3 w3 c0 x3 x1 x2 (fun _ => 0) 0 nc s a d g k := ⟨e3, e1, e2, fun i hi => absurd hi (by omega), by omega, fun i j hi => absurd hi (by omega), fun i hi => absurd hi (by omega), Below.refl _ _⟩
    have hcx : Hid (c0 < x1 ∧ x1 < x2 ∧ x2 < x3 ∧ x3 < w3.heap.size) := hid1 ⟨lt2, hx1, hx2, hx3⟩
    clear lt2 hx1 hx2 hx3 e1 e2 e3
    replace bel3 := hid1 bel3
    have t0 := hs.rd
    go_upto_region 5 with fail
    clear t0
    go_loopw [20, 4, 22, 23, 24, 25, 26, 27, 28, 29, 30, 31, 21] (fun i _ _ _ _ _ _ _ _ _ _ _ _ wr => ∃ (j : Nat) (bs : Nat → Nat), j ≤ nc ∧ i = .int .i64 j ∧ Nw w3 wr c0 x3 x1 x2 bs j nc s a d g k) (fun i _ _ _ _ _ _ _ _ _ _ _ _ _ => nc - (intOf i).toNat)
    case atStart => exact ⟨0, _, Nat.zero_le _, rfl, hs⟩
    case round =>
      clear hs
      obtain ⟨j, bs, hj, rfl, hs⟩ := hrel
      by_cases hl : j < nc
      · rename_i wr
        have hl1 : (j : Int) < (nc : Int) := by omega
        have hl0 : (0 : Int) ≤ (j : Int) := by omega
        have e3 : IntKind.i64.wrap ((j : Int) + 1) = ((j + 1 : Nat) : Int) := by rw [IntKind.wrap_i64]; omega
        have t2 := hs.rd
        have t3 := hs.cellj hl
        have nx := hs.next hl (by have := hcx.out; omega) (by have := hcx.out; omega) (by have := hcx.out; omega)
        have al := (alloc_below wr (.map #[] 0)).block x1 (lt_of_block hs.hc)
        have fzc := cells_free (al.trans hs.hc) (j * 3)
        have t4 := (World.cell?_of_block (a := ⟨x1, j * 3, none⟩) al).trans t3
        clear hs al t3
        generalize hk2 : j + 1 = j2 at *
        replace hk2 := hid1 hk2
        generalize hwA : wr.alloc (.map #[] 0) = wA at *
        replace hmm2 : (Instr.makeMap 70 none).run Try.prog wr = .ok (.map (some wr.heap.size)) wA := by rw [hmm2, hwA]
        clear hwA
        replace nx := hid1 nx
        go_upto_region 7 with fail
        go_wp2
        go_roundw
        case rel => exact ⟨j2, _, by have := hk2.out; omega, rfl, nx.out⟩
        case measure => (have := hk2.out; simp [intOf]; omega)
      · obtain rfl : j = nc := by omega
        have hl1 : ¬ (j : Int) < (j : Int) := by omega
        go_wp2
        go_ret
        exact ⟨_, rfl, _, _, bs, by rw [hc0.out]; exact bel3.out.trans hs.bel, hs.hB, hs.hc, hs.hG, hs.hm, by rw [hc0.out]; exact ⟨hs.lt.2.2, hs.lt.1, hs.lt.2.1, fun i hi => by have := hs.old i hi; have := hcx.out; omega⟩, hs.inj, fun i hi e => by have := hs.old i hi; have := hcx.out; omega⟩
  · rename_i hHeld
    clear hHeld
    obtain ⟨e1, e2, e3, e4⟩ := nw_one w2 (.map #[] 0) (.cells (clA (fun _ => 0) 0 nc) 72) (.cells #[.int .i64 s, .int .i64 a, .int .i64 (nc : Nat), .int .i64 d, .int .i64 g, .int .i64 k, .slice none 0 0, .slice (some ⟨(w2.heap.size + 1), 0, none⟩) nc nc, .map (some w2.heap.size)] 69)
    have bel3 := bel2.trans ((up (.map #[] 0) (.cells (clA (fun _ => 0) 0 nc) 72) (.cells #[.int .i64 s, .int .i64 a, .int .i64 (nc : Nat), .int .i64 d, .int .i64 g, .int .i64 k, .slice none 0 0, .slice (some ⟨(w2.heap.size + 1), 0, none⟩) nc nc, .map (some w2.heap.size)] 69)).mono (Nat.le_of_lt lt2))
    generalize World.drew _ = w3 at *
    clear hkeep up s0 s1 s2 s3 s4 s5 hb2 bel2
    have hx1 : w2.heap.size < w2.heap.size + 1 := by omega
    have hx2 : w2.heap.size + 1 < w2.heap.size + 1 + 1 := by omega
    have hx3 : w2.heap.size + 1 + 1 < w3.heap.size := by omega
    clear e4
    generalize w2.heap.size + 1 + 1 = x3 at *
    generalize w2.heap.size + 1 = x2 at *
    generalize w2.heap.size = x1 at *
    clear w2
    replace hc0 := hid1 hc0.out
    have hs : Nw w3 w3 c0 x3 x2 x1 (fun _ => 0) 0 nc s a d g k := ⟨e3, e2, e1, fun i hi => absurd hi (by omega), by omega, fun i j hi => absurd hi (by omega), fun i hi => absurd hi (by omega), Below.refl _ _⟩
    have hcx : Hid (c0 < x1 ∧ x1 < x2 ∧ x2 < x3 ∧ x3 < w3.heap.size) := hid1 ⟨lt2, hx1, hx2, hx3⟩
    clear lt2 hx1 hx2 hx3 e1 e2 e3
    replace bel3 := hid1 bel3
    have t0 := hs.rd
    go_upto_region 5 with fail
    clear t0
    go_loopw [20, 4, 22, 23, 24, 25, 26, 27, 28, 29, 30, 31, 21] (fun i _ _ _ _ _ _ _ _ _ _ _ _ wr => ∃ (j : Nat) (bs : Nat → Nat), j ≤ nc ∧ i = .int .i64 j ∧ Nw w3 wr c0 x3 x2 x1 bs j nc s a d g k) (fun i _ _ _ _ _ _ _ _ _ _ _ _ _ => nc - (intOf i).toNat)
    case atStart => exact ⟨0, _, Nat.zero_le _, rfl, hs⟩
    case round =>
      clear hs
      obtain ⟨j, bs, hj, rfl, hs⟩ := hrel
      by_cases hl : j < nc
      · rename_i wr
        have hl1 : (j : Int) < (nc : Int) := by omega
        have hl0 : (0 : Int) ≤ (j : Int) := by omega
        have e3 : IntKind.i64.wrap ((j : Int) + 1) = ((j + 1 : Nat) : Int) := by rw [IntKind.wrap_i64]; omega
        have t2 := hs.rd
        have t3 := hs.cellj hl
        have nx := hs.next hl (by have := hcx.out; omega) (by have := hcx.out; omega) (by have := hcx.out; omega)
        have al := (alloc_below wr (.map #[] 0)).block x2 (lt_of_block hs.hc)
        have fzc := cells_free (al.trans hs.hc) (j * 3)
        have t4 := (World.cell?_of_block (a := ⟨x2, j * 3, none⟩) al).trans t3
        clear hs al t3
        generalize hk2 : j + 1 = j2 at *
        replace hk2 := hid1 hk2
        generalize hwA : wr.alloc (.map #[] 0) = wA at *
        replace hmm2 : (Instr.makeMap 70 none).run Try.prog wr = .ok (.map (some wr.heap.size)) wA := by rw [hmm2, hwA]
        clear hwA
        replace nx := hid1 nx
        go_upto_region 7 with fail
        go_wp2
        go_roundw
        case rel => exact ⟨j2, _, by have := hk2.out; omega, rfl, nx.out⟩
        case measure => (have := hk2.out; simp [intOf]; omega)
      · obtain rfl : j = nc := by omega
        have hl1 : ¬ (j : Int) < (j : Int) := by omega
        go_wp2
        go_ret
        exact ⟨_, rfl, _, _, bs, by rw [hc0.out]; exact bel3.out.trans hs.bel, hs.hB, hs.hc, hs.hG, hs.hm, by rw [hc0.out]; exact ⟨hs.lt.2.2, hs.lt.1, hs.lt.2.1, fun i hi => by have := hs.old i hi; have := hcx.out; omega⟩, hs.inj, fun i hi e => by have := hs.old i hi; have := hcx.out; omega⟩
end Go.Proofs.Ytcccmmhpingmnaa
