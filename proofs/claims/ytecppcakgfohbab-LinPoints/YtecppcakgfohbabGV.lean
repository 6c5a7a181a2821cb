/- A config, and whether it is right. -/
import Derived.Test.YtecppcakgfohbabNU
import Derived.Deep.RegionHeld3
namespace Go.Proofs.Ytecppcakgfohbab
open Go.RowKit

/-- A config's cells. -/
abbrev cs (s a c d g k : Int) : Array Value := #[.int .i64 s, .int .i64 a, .int .i64 c, .int .i64 d, .int .i64 g, .int .i64 k]

/-- A config in a block of its own. -/
def IsCfg (w : World) (B : Nat) (s a c d g k : Int) : Prop := w.heap[B]? = some (.cells #[.int .i64 s, .int .i64 a, .int .i64 c, .int .i64 d, .int .i64 g, .int .i64 k] 23 (0, 0))

theorem IsCfg.cells {w : World} {B : Nat} {s a c d g k : Int} (x : IsCfg w B s a c d g k) :
    w.cell? ⟨B, 0, none⟩ = some (.int .i64 s) ∧ w.cell? ⟨B, 1, none⟩ = some (.int .i64 a) ∧ w.cell? ⟨B, 2, none⟩ = some (.int .i64 c) ∧ w.cell? ⟨B, 3, none⟩ = some (.int .i64 d) ∧ w.cell? ⟨B, 4, none⟩ = some (.int .i64 g) ∧ w.cell? ⟨B, 5, none⟩ = some (.int .i64 k) := by
  have x' : w.heap[B]? = _ := x
  refine ⟨?_, ?_, ?_, ?_, ?_, ?_⟩ <;> simp [World.cell?, x']
theorem IsCfg.lt {w : World} {B : Nat} {s a c d g k : Int} (x : IsCfg w B s a c d g k) : B < w.heap.size := lt_of_block x
theorem IsCfg.below {w w' : World} {B : Nat} {s a c d g k : Int} (x : IsCfg w B s a c d g k) (b : Below w.heap.size w w') : IsCfg w' B s a c d g k := by
  show w'.heap[B]? = _
  rw [b.block B x.lt]; exact x
theorem cfg_new (w : World) (s a c d g k : Int) : IsCfg (w.alloc (.cells #[.int .i64 s, .int .i64 a, .int .i64 c, .int .i64 d, .int .i64 g, .int .i64 k] 23)) w.heap.size s a c d g k := (MapKept.heap_alloc w _).1
def wi (n lo hi : Int) : Bool := decide (lo ≤ n) && decide (n ≤ hi)
def be (i n : Int) : Bool := decide (0 ≤ i) && decide (i < n)
theorem wi_iff {n lo hi : Int} : wi n lo hi = true ↔ lo ≤ n ∧ n ≤ hi := by simp [wi]
theorem be_iff {i n : Int} : be i n = true ↔ 0 ≤ i ∧ i < n := by simp [be]
theorem wi_no {n lo hi : Int} (h : ¬ lo ≤ n) : false = wi n lo hi := by simp [wi, h]
theorem wi_yes {n lo hi : Int} (h : lo ≤ n) : decide (n ≤ hi) = wi n lo hi := by simp [wi, h]
theorem be_no {i n : Int} (h : ¬ 0 ≤ i) : false = be i n := by simp [be, h]
theorem be_yes {i n : Int} (h : 0 ≤ i) : decide (i < n) = be i n := by simp [be, h]

theorem within_any (n lo hi : Int) (w : World) : Calls Try.prog 25 #[.int .i64 n, .int .i64 lo, .int .i64 hi] w fun e w' => e = .returned (.bool (wi n lo hi)) ∧ w = w' := by
  go_enter Try.func25, Try.ntmps25
  go_wp2
  all_goals go_ret
  · exact ⟨congrArg (fun b => Ending.returned (Value.bool b)) (wi_yes (by omega)), rfl⟩
  · exact ⟨congrArg (fun b => Ending.returned (Value.bool b)) (wi_no (by omega)), rfl⟩

/-- Whether a config is right. -/
def rightB (s a c d g k : Int) : Bool := wi s 1 64 && wi a 0 8 && wi c 1 8 && wi d 1 16 && wi g 1 1048576 && wi k 0 64

theorem rightB_iff {s a c d g k : Int} : rightB s a c d g k = true ↔ (1 ≤ s ∧ s ≤ 64) ∧ (0 ≤ a ∧ a ≤ 8) ∧ (1 ≤ c ∧ c ≤ 8) ∧ (1 ≤ d ∧ d ≤ 16) ∧ (1 ≤ g ∧ g ≤ 1048576) ∧ (0 ≤ k ∧ k ≤ 64) := by
  unfold rightB
  simp only [Bool.and_eq_true, wi_iff]
  omega
theorem bool_of {b : Bool} {P : Prop} [Decidable P] (h : b = true ↔ P) : decide P = b := by
  by_cases hp : P
  · rw [h.2 hp]; simpa using hp
  · have : ¬ b = true := fun k => hp (h.1 k)
    rw [Bool.eq_false_iff.2 this]; simpa using hp
theorem bool_no {b : Bool} {P : Prop} (h : b = true ↔ P) (hp : ¬ P) : false = b := (Bool.eq_false_iff.2 (fun k => hp (h.1 k))).symm

set_option maxHeartbeats 2000000 in
theorem right_any (s a c d g k : Int) (w : World) : Calls Try.prog 15 #[.agg (cs s a c d g k)] w fun e w' => e = .returned (.bool (rightB s a c d g k)) ∧ Below w.heap.size w w' := by
  have c1 := within_any s 1 64
  have c2 := within_any a 0 8
  have c3 := within_any c 1 8
  have c4 := within_any d 1 16
  have c5 := within_any g 1 1048576
  have c6 := within_any k 0 64
  unfold rightB
  generalize wi s 1 64 = b1 at *
  generalize wi a 0 8 = b2 at *
  generalize wi c 1 8 = b3 at *
  generalize wi d 1 16 = b4 at *
  generalize wi g 1 1048576 = b5 at *
  generalize wi k 0 64 = b6 at *
  have bel := alloc_below w (.cells #[.int .i64 s, .int .i64 a, .int .i64 c, .int .i64 d, .int .i64 g, .int .i64 k] 23)
  go_enter Try.func15, Try.ntmps15
  go_wp2_with (go_at_call 25; first | (with_reducible refine (c1 _).mono ?_; rintro e w1 ⟨rfl, rfl⟩) | (with_reducible refine (c2 _).mono ?_; rintro e w1 ⟨rfl, rfl⟩) | (with_reducible refine (c3 _).mono ?_; rintro e w1 ⟨rfl, rfl⟩) | (with_reducible refine (c4 _).mono ?_; rintro e w1 ⟨rfl, rfl⟩) | (with_reducible refine (c5 _).mono ?_; rintro e w1 ⟨rfl, rfl⟩) | (with_reducible refine (c6 _).mono ?_; rintro e w1 ⟨rfl, rfl⟩))
  all_goals go_ret
  all_goals
    clear c1 c2 c3 c4 c5 c6
    refine ⟨congrArg (fun b => Ending.returned (Value.bool b)) ?_, bel⟩
    simp_all

end Go.Proofs.Ytecppcakgfohbab
/- Whether a config is right, by definition. -/
namespace Go.Proofs.Ytecppcakgfohbab
open Go.RowKit

set_option maxHeartbeats 2000000 in
theorem r6right_any (s a c d g k : Int) (w : World) : Calls Try.prog 8 #[.agg (cs s a c d g k)] w fun e w' => e = .returned (.bool (rightB s a c d g k)) ∧ Below w.heap.size w w' := by
  have bel := alloc_below w (.cells #[.int .i64 s, .int .i64 a, .int .i64 c, .int .i64 d, .int .i64 g, .int .i64 k] 23)
  go_enter Try.func8, Try.ntmps8
  go_wp2
  all_goals go_ret
  all_goals
    refine ⟨congrArg (fun b => Ending.returned (Value.bool b)) ?_, bel⟩
    first
      | exact bool_no rightB_iff (by omega)
      | exact bool_of (by rw [rightB_iff]; omega)

end Go.Proofs.Ytecppcakgfohbab
/- New. -/
namespace Go.Proofs.Ytecppcakgfohbab
open Go.RowKit

/-- Clients' cells: the first j have their map. -/
def clA (bs : Nat → Nat) (j n : Nat) : Array Value := Array.ofFn (n := 3 * n) fun q => if q.1 % 3 = 0 then (if q.1 / 3 < j then Value.map (some (bs (q.1 / 3))) else Value.map none) else if q.1 % 3 = 1 then Value.int .u64 0 else Value.slice none 0 0
theorem clA_at (bs : Nat → Nat) (j n q : Nat) : (clA bs j n)[q]? = if q < 3 * n then some (if q % 3 = 0 then (if q / 3 < j then Value.map (some (bs (q / 3))) else Value.map none) else if q % 3 = 1 then Value.int .u64 0 else Value.slice none 0 0) else none := by
  unfold clA
  rw [Array.getElem?_ofFn]
  by_cases h : q < 3 * n
  · rw [dif_pos h, if_pos h]
  · rw [dif_neg h, if_neg h]
theorem clA_size (bs : Nat → Nat) (j n : Nat) : (clA bs j n).size = 3 * n := by simp [clA]
theorem clA_made (n : Nat) : madeCells #[.map none, .int .u64 0, .slice none 0 0] (n * 3) = clA (fun _ => 0) 0 n := by
  apply Array.ext_getElem?
  intro q
  rw [clA_at]
  by_cases hq : q < 3 * n
  · rw [if_pos hq]
    have hq' : q < n * 3 := by omega
    have h3 : q % 3 = 0 ∨ q % 3 = 1 ∨ q % 3 = 2 := by omega
    unfold madeCells
    rw [Array.getElem?_map, Array.getElem?_range, if_pos hq']
    show some (#[Value.map none, .int .u64 0, .slice none 0 0][q % 3]!) = _
    rcases h3 with h | h | h <;> rw [h] <;> rfl
  · rw [if_neg hq]
    unfold madeCells
    rw [Array.getElem?_map, Array.getElem?_range, if_neg (by omega)]
    rfl
theorem cl_info : (Try.prog.info? 83).map (fun i => (i.zero, i.size, i.bytes)) = some (some (.agg #[.map none, .int .u64 0, .slice none 0 0]), 3, 40) := by kernel_rfl
theorem clA_set {bs : Nat → Nat} {j n b : Nat} (h : j < n) : (clA bs j n).setIfInBounds (j * 3) (.map (some b)) = clA (fun i => if i = j then b else bs i) (j + 1) n := by
  apply Array.ext_getElem?
  intro q
  rw [Array.getElem?_setIfInBounds, clA_at, clA_at, clA_size]
  by_cases hq : j * 3 = q
  · subst hq
    simp [show j * 3 < 3 * n by omega]
  · rw [if_neg hq]
    by_cases hn : q < 3 * n
    · simp only [if_pos hn, Option.some.injEq]
      by_cases h0 : q % 3 = 0
      · have hj : q / 3 ≠ j := by omega
        have e : (q / 3 < j + 1) = (q / 3 < j) := by apply propext; omega
        simp only [h0, if_true, e, hj, if_false]
      · simp only [if_neg h0]
    · simp only [if_neg hn]
theorem clA_two (bs : Nat → Nat) : clA bs 2 2 = #[.map (some (bs 0)), .int .u64 0, .slice none 0 0, .map (some (bs 1)), .int .u64 0, .slice none 0 0] := by
  apply Array.ext_getElem?
  intro q
  rw [clA_at]
  by_cases hq : q < 6
  · have hc : q = 0 ∨ q = 1 ∨ q = 2 ∨ q = 3 ∨ q = 4 ∨ q = 5 := by omega
    rcases hc with rfl | rfl | rfl | rfl | rfl | rfl <;> simp
  · rw [if_neg (by omega)]
    symm
    simp; omega

theorem nw_one (w : World) (o1 o2 o3 : Obj) : (((w.alloc o1).alloc o2).alloc o3).drew.heap[w.heap.size]? = some o1 ∧ (((w.alloc o1).alloc o2).alloc o3).drew.heap[w.heap.size + 1]? = some o2 ∧ (((w.alloc o1).alloc o2).alloc o3).drew.heap[w.heap.size + 1 + 1]? = some o3 ∧ (((w.alloc o1).alloc o2).alloc o3).drew.heap.size = w.heap.size + 3 := by
  have e1 : (w.alloc o1).heap.size = w.heap.size + 1 := by simp
  have e2 : ((w.alloc o1).alloc o2).heap.size = w.heap.size + 1 + 1 := by simp
  have h1 := new_obj w o1
  have h2 := new_obj (w.alloc o1) o2
  have h3 := new_obj ((w.alloc o1).alloc o2) o3
  rw [e1] at h2
  rw [e2] at h3
  have k1 := (alloc_below (w.alloc o1) o2).block w.heap.size (by omega)
  have k2 := (alloc_below ((w.alloc o1).alloc o2) o3).block w.heap.size (by omega)
  have k3 := (alloc_below ((w.alloc o1).alloc o2) o3).block (w.heap.size + 1) (by omega)
  refine ⟨(k2.trans k1).trans h1, k3.trans h2, h3, ?_⟩
  show (((w.alloc o1).alloc o2).alloc o3).heap.size = _
  simp
/-- While New makes a map for each client. -/
structure Nw (w3 wr : World) (c0 B Bc bG : Nat) (bs : Nat → Nat) (j nc : Nat) (s a d g k : Int) : Prop where
  hB : wr.heap[B]? = some (.cells #[.int .i64 s, .int .i64 a, .int .i64 (nc : Nat), .int .i64 d, .int .i64 g, .int .i64 k, .slice none 0 0, .slice (some ⟨Bc, 0, none⟩) nc nc, .map (some bG)] 80 (0, 0))
  hc : wr.heap[Bc]? = some (.cells (clA bs j nc) 83 (0, 0))
  hG : wr.heap[bG]? = some (.map #[] 0)
  hm : ∀ i, i < j → wr.heap[bs i]? = some (.map #[] 0)
  lt : c0 ≤ Bc ∧ c0 ≤ bG ∧ c0 ≤ B
  inj : ∀ i i', i < j → i' < j → bs i = bs i' → i = i'
  old : ∀ i, i < j → w3.heap.size ≤ bs i
  bel : Below c0 w3 wr
/-- What New answers for a right config. -/
def NwR (w w' : World) (B nc : Nat) (s a d g k : Int) : Prop := ∃ Bc bG bs, Below w.heap.size w w' ∧
      w'.heap[B]? = some (.cells #[.int .i64 s, .int .i64 a, .int .i64 (nc : Nat), .int .i64 d, .int .i64 g, .int .i64 k, .slice none 0 0, .slice (some ⟨Bc, 0, none⟩) nc nc, .map (some bG)] 80 (0, 0)) ∧
      w'.heap[Bc]? = some (.cells (clA bs nc nc) 83 (0, 0)) ∧ w'.heap[bG]? = some (.map #[] 0) ∧ (∀ i, i < nc → w'.heap[bs i]? = some (.map #[] 0)) ∧
      (w.heap.size ≤ B ∧ w.heap.size ≤ Bc ∧ w.heap.size ≤ bG ∧ ∀ i, i < nc → w.heap.size ≤ bs i) ∧ (∀ i j, i < nc → j < nc → bs i = bs j → i = j) ∧ ∀ i, i < nc → bs i ≠ bG
theorem Nw.rd {w3 wr : World} {c0 B Bc bG : Nat} {bs : Nat → Nat} {j nc : Nat} {s a d g k : Int} (h : Nw w3 wr c0 B Bc bG bs j nc s a d g k) : wr.cell? ⟨B, 7, none⟩ = some (.slice (some ⟨Bc, 0, none⟩) nc nc) := by
  simp [World.cell?, h.hB]
theorem Nw.cellj {w3 wr : World} {c0 B Bc bG : Nat} {bs : Nat → Nat} {j nc : Nat} {s a d g k : Int} (h : Nw w3 wr c0 B Bc bG bs j nc s a d g k) (hj : j < nc) : wr.cell? ⟨Bc, j * 3, none⟩ = some (.map none) := by
  simp only [World.cell?, h.hc]
  show (clA bs j nc)[j * 3]? = _
  rw [clA_at, if_pos (by omega), if_pos (by omega), if_neg (by omega)]
theorem Nw.next {w3 wr : World} {c0 B Bc bG : Nat} {bs : Nat → Nat} {j nc : Nat} {s a d g k : Int} (h : Nw w3 wr c0 B Bc bG bs j nc s a d g k) (hj : j < nc) (hb : Bc < w3.heap.size) (hb2 : B ≠ Bc) (hb3 : bG ≠ Bc) :
    Nw w3 ((wr.alloc (.map #[] 0)).setCell ⟨Bc, j * 3, none⟩ (.map (some wr.heap.size))) c0 B Bc bG (fun i => if i = j then wr.heap.size else bs i) (j + 1) nc s a d g k := by
  have hs := h.bel.size
  have al : ∀ i, i < wr.heap.size → (wr.alloc (.map #[] 0)).heap[i]? = wr.heap[i]? := fun i hi => (alloc_below wr _).block i hi
  have st : ∀ i, i ≠ Bc → ((wr.alloc (.map #[] 0)).setCell ⟨Bc, j * 3, none⟩ (.map (some wr.heap.size))).heap[i]? = (wr.alloc (.map #[] 0)).heap[i]? := fun i hi => Below.heap_setCell _ _ _ _ hi
  have keep : ∀ i o, i ≠ Bc → wr.heap[i]? = some o → ((wr.alloc (.map #[] 0)).setCell ⟨Bc, j * 3, none⟩ (.map (some wr.heap.size))).heap[i]? = some o := fun i o hi ho => (st i hi).trans ((al i (lt_of_block ho)).trans ho)
  exact {
    hB := keep _ _ hb2 h.hB
    hc := by
      have := heap_put (o := j * 3) ((al Bc (lt_of_block h.hc)).trans h.hc) (.map (some wr.heap.size))
      rw [clA_set hj] at this
      exact this
    hG := keep _ _ hb3 h.hG
    hm := fun i hi => by
      by_cases hij : i = j
      · show _[(if i = j then wr.heap.size else bs i)]? = _
        rw [if_pos hij]
        exact (st _ (by omega)).trans (new_obj wr _)
      · show _[(if i = j then wr.heap.size else bs i)]? = _
        rw [if_neg hij]
        have := h.old i (by omega)
        exact keep _ _ (by omega) (h.hm i (by omega))
    lt := h.lt
    inj := fun i i' hi hi' e => by
      have e' : (if i = j then wr.heap.size else bs i) = (if i' = j then wr.heap.size else bs i') := e
      by_cases h1 : i = j <;> by_cases h2 : i' = j
      · omega
      · rw [if_pos h1, if_neg h2] at e'
        have := lt_of_block (h.hm i' (by omega))
        omega
      · rw [if_neg h1, if_pos h2] at e'
        have := lt_of_block (h.hm i (by omega))
        omega
      · rw [if_neg h1, if_neg h2] at e'
        exact h.inj i i' (by omega) (by omega) e'
    old := fun i hi => by
      show _ ≤ (if i = j then wr.heap.size else bs i)
      split
      · exact hs
      · exact h.old i (by omega)
    bel := by
      have := h.lt
      exact (h.bel.trans ((alloc_below wr _).mono (by omega))).setCell (by show c0 ≤ Bc; omega) _ }
set_option maxHeartbeats 4000000 in
theorem new_any (s a d g k : Int) (nc : Nat) (hR : rightB s a nc d g k = true) (w : World) :
    Calls Try.prog 23 #[.agg (cs s a nc d g k)] w fun r w' => ∃ B, r = .returned (.pointer (some ⟨B, 0, none⟩)) ∧ NwR w w' B nc s a d g k := by
  have hnc := (rightB_iff.1 hR).2.2.1
  have hmk : ∀ wr, (Instr.makeSlice 77 (.int .i64 (nc : Nat)) (.int .i64 (nc : Nat))).run Try.prog wr = .ok (.slice (some ⟨wr.heap.size, 0, none⟩) nc nc) (wr.alloc (.cells (clA (fun _ => 0) 0 nc) 83)) := fun wr => by
    obtain ⟨i, h1, h2, h3, h4⟩ := info_parts cl_info
    have := run_makeSlice (P := Try.prog) 77 83 i _ Try.underlying77 h1 h2 .i64 .i64 (nc : Nat) (nc : Nat) (by omega) (by omega) (by rw [h3]; omega) (by rw [h4]; omega) (by omega) (w := wr)
    rw [h3, Int.toNat_natCast] at this
    rw [← clA_made]
    exact this
  have cR := right_any s a nc d g k
  rw [hR] at cR
  have hmm : ∀ wr, (Instr.makeMap 78 none).run Try.prog wr = .ok (.map (some wr.heap.size)) (wr.alloc (.map #[] 0)) := fun _ => rfl
  have hmm2 : ∀ wr, (Instr.makeMap 81 none).run Try.prog wr = .ok (.map (some wr.heap.size)) (wr.alloc (.map #[] 0)) := fun _ => rfl
  go_enter Try.func23, Try.ntmps23
  have hb0 := new_obj w (.cells #[.int .i64 s, .int .i64 a, .int .i64 (nc : Nat), .int .i64 d, .int .i64 g, .int .i64 k] 23)
  have bel0 := alloc_below w (.cells #[.int .i64 s, .int .i64 a, .int .i64 (nc : Nat), .int .i64 d, .int .i64 g, .int .i64 k] 23)
  have lt0 : w.heap.size < (w.alloc (.cells #[.int .i64 s, .int .i64 a, .int .i64 (nc : Nat), .int .i64 d, .int .i64 g, .int .i64 k] 23)).heap.size := lt_of_block hb0
  go_upto_region 1 with fail
  generalize w.alloc (.cells #[.int .i64 s, .int .i64 a, .int .i64 (nc : Nat), .int .i64 d, .int .i64 g, .int .i64 k] 23) = w1 at *
  generalize hc0 : w.heap.size = c0 at *
  replace hc0 := hid1 hc0
  have s0 : w1.cell? ⟨c0, 0, none⟩ = some (.int .i64 s) := by simp [World.cell?, hb0]
  have s1 : w1.cell? ⟨c0, 1, none⟩ = some (.int .i64 a) := by simp [World.cell?, hb0]
  have s2 : w1.cell? ⟨c0, 2, none⟩ = some (.int .i64 (nc : Nat)) := by simp [World.cell?, hb0]
  have s3 : w1.cell? ⟨c0, 3, none⟩ = some (.int .i64 d) := by simp [World.cell?, hb0]
  have s4 : w1.cell? ⟨c0, 4, none⟩ = some (.int .i64 g) := by simp [World.cell?, hb0]
  have s5 : w1.cell? ⟨c0, 5, none⟩ = some (.int .i64 k) := by simp [World.cell?, hb0]
  unfold cs at cR
  go_upto_region 3 with (go_at_call 15; with_reducible refine (cR _).mono ?_; rintro e w2 ⟨rfl, b2⟩)
  clear cR
  have bel2 := bel0.trans (b2.mono (Nat.le_of_lt (by have := hc0.out; omega)))
  have hb2 := (b2.block c0 lt0).trans hb0
  have lt2 := lt_of_block hb2
  clear bel0 hb0 lt0 b2 s0 s1 s2 s3 s4 s5
  clear w1
  have s0 : w2.cell? ⟨c0, 0, none⟩ = some (.int .i64 s) := by simp [World.cell?, hb2]
  have s1 : w2.cell? ⟨c0, 1, none⟩ = some (.int .i64 a) := by simp [World.cell?, hb2]
  have s2 : w2.cell? ⟨c0, 2, none⟩ = some (.int .i64 (nc : Nat)) := by simp [World.cell?, hb2]
  have s3 : w2.cell? ⟨c0, 3, none⟩ = some (.int .i64 d) := by simp [World.cell?, hb2]
  have s4 : w2.cell? ⟨c0, 4, none⟩ = some (.int .i64 g) := by simp [World.cell?, hb2]
  have s5 : w2.cell? ⟨c0, 5, none⟩ = some (.int .i64 k) := by simp [World.cell?, hb2]
  have hkeep : ∀ wr : World, wr.heap[c0]? = w2.heap[c0]? → wr.cell? ⟨c0, 0, none⟩ = some (.int .i64 s) ∧ wr.cell? ⟨c0, 1, none⟩ = some (.int .i64 a) ∧ wr.cell? ⟨c0, 2, none⟩ = some (.int .i64 (nc : Nat)) ∧ wr.cell? ⟨c0, 3, none⟩ = some (.int .i64 d) ∧ wr.cell? ⟨c0, 4, none⟩ = some (.int .i64 g) ∧ wr.cell? ⟨c0, 5, none⟩ = some (.int .i64 k) := fun wr e => by
    refine ⟨?_, ?_, ?_, ?_, ?_, ?_⟩ <;> simp [World.cell?, e, hb2]
  have up : ∀ (o1 o2 o3 : Obj), Below w2.heap.size w2 (((w2.alloc o1).alloc o2).alloc o3).drew := fun o1 o2 o3 => (seq_below (seq_below (alloc_below w2 o1) (alloc_below _ o2)) (alloc_below _ o3)).drew
  go_region_held (fun wr => wr.cell? ⟨c0, 0, none⟩ = some (.int .i64 s) ∧ wr.cell? ⟨c0, 1, none⟩ = some (.int .i64 a) ∧ wr.cell? ⟨c0, 2, none⟩ = some (.int .i64 (nc : Nat)) ∧ wr.cell? ⟨c0, 3, none⟩ = some (.int .i64 d) ∧ wr.cell? ⟨c0, 4, none⟩ = some (.int .i64 g) ∧ wr.cell? ⟨c0, 5, none⟩ = some (.int .i64 k)) (first | with_reducible exact ⟨s0, s1, s2, s3, s4, s5⟩ | with_reducible exact hkeep _ ((up _ _ _).block c0 lt2) | go_keep) (fail)
  · rename_i hHeld
    clear hHeld
    obtain ⟨e1, e2, e3, e4⟩ := nw_one w2 (.cells (clA (fun _ => 0) 0 nc) 83) (.map #[] 0) (.cells #[.int .i64 s, .int .i64 a, .int .i64 (nc : Nat), .int .i64 d, .int .i64 g, .int .i64 k, .slice none 0 0, .slice (some ⟨w2.heap.size, 0, none⟩) nc nc, .map (some (w2.heap.size + 1))] 80)
    have bel3 := bel2.trans ((up (.cells (clA (fun _ => 0) 0 nc) 83) (.map #[] 0) (.cells #[.int .i64 s, .int .i64 a, .int .i64 (nc : Nat), .int .i64 d, .int .i64 g, .int .i64 k, .slice none 0 0, .slice (some ⟨w2.heap.size, 0, none⟩) nc nc, .map (some (w2.heap.size + 1))] 80)).mono (Nat.le_of_lt lt2))
    generalize World.drew _ = w3 at *
    clear hkeep up s0 s1 s2 s3 s4 s5 hb2 bel2
    have hx1 : w2.heap.size < w2.heap.size + 1 := by omega
    have hx2 : w2.heap.size + 1 < w2.heap.size + 1 + 1 := by omega
    have hx3 : w2.heap.size + 1 + 1 < w3.heap.size := by omega
    clear e4
    generalize w2.heap.size + 1 + 1 = x3 at *
    generalize w2.heap.size + 1 = x2 at *
    generalize w2.heap.size = x1 at *
    clear w2
    replace hc0 := hid1 hc0.out
    have hs : Nw w3 w3 c0 x3 x1 x2 (fun _ => 0) 0 nc s a d g k := ⟨e3, e1, e2, fun i hi => absurd hi (by omega), by omega, fun i j hi => absurd hi (by omega), fun i hi => absurd hi (by omega), Below.refl _ _⟩
    have hcx : Hid (c0 < x1 ∧ x1 < x2 ∧ x2 < x3 ∧ x3 < w3.heap.size) := hid1 ⟨lt2, hx1, hx2, hx3⟩
    clear lt2 hx1 hx2 hx3 e1 e2 e3
    replace bel3 := hid1 bel3
    have t0 := hs.rd
    go_upto_region 5 with fail
    clear t0
    go_loopw [20, 4, 22, 23, 24, 25, 26, 27, 28, 29, 30, 31, 21] (fun i _ _ _ _ _ _ _ _ _ _ _ _ wr => ∃ (j : Nat) (bs : Nat → Nat), j ≤ nc ∧ i = .int .i64 j ∧ Nw w3 wr c0 x3 x1 x2 bs j nc s a d g k) (fun i _ _ _ _ _ _ _ _ _ _ _ _ _ => nc - (intOf i).toNat)
    case atStart => exact ⟨0, _, Nat.zero_le _, rfl, hs⟩
    case round =>
      clear hs
      obtain ⟨j, bs, hj, rfl, hs⟩ := hrel
      by_cases hl : j < nc
      · rename_i wr
        have hl1 : (j : Int) < (nc : Int) := by omega
        have hl0 : (0 : Int) ≤ (j : Int) := by omega
        have e3 : IntKind.i64.wrap ((j : Int) + 1) = ((j + 1 : Nat) : Int) := by rw [IntKind.wrap_i64]; omega
        have t2 := hs.rd
        have t3 := hs.cellj hl
        have nx := hs.next hl (by have := hcx.out; omega) (by have := hcx.out; omega) (by have := hcx.out; omega)
        have al := (alloc_below wr (.map #[] 0)).block x1 (lt_of_block hs.hc)
        have fzc := cells_free (al.trans hs.hc) (j * 3)
        have t4 := (World.cell?_of_block (a := ⟨x1, j * 3, none⟩) al).trans t3
        clear hs al t3
        generalize hk2 : j + 1 = j2 at *
        replace hk2 := hid1 hk2
        generalize hwA : wr.alloc (.map #[] 0) = wA at *
        replace hmm2 : (Instr.makeMap 81 none).run Try.prog wr = .ok (.map (some wr.heap.size)) wA := by rw [hmm2, hwA]
        clear hwA
        replace nx := hid1 nx
        go_upto_region 7 with fail
        go_wp2
        go_roundw
        case rel => exact ⟨j2, _, by have := hk2.out; omega, rfl, nx.out⟩
        case measure => (have := hk2.out; simp [intOf]; omega)
      · obtain rfl : j = nc := by omega
        have hl1 : ¬ (j : Int) < (j : Int) := by omega
        go_wp2
        go_ret
        exact ⟨_, rfl, _, _, bs, by rw [hc0.out]; exact bel3.out.trans hs.bel, hs.hB, hs.hc, hs.hG, hs.hm, by rw [hc0.out]; exact ⟨hs.lt.2.2, hs.lt.1, hs.lt.2.1, fun i hi => by have := hs.old i hi; have := hcx.out; omega⟩, hs.inj, fun i hi e => by have := hs.old i hi; have := hcx.out; omega⟩
  · rename_i hHeld
    clear hHeld
    obtain ⟨e1, e2, e3, e4⟩ := nw_one w2 (.map #[] 0) (.cells (clA (fun _ => 0) 0 nc) 83) (.cells #[.int .i64 s, .int .i64 a, .int .i64 (nc : Nat), .int .i64 d, .int .i64 g, .int .i64 k, .slice none 0 0, .slice (some ⟨(w2.heap.size + 1), 0, none⟩) nc nc, .map (some w2.heap.size)] 80)
    have bel3 := bel2.trans ((up (.map #[] 0) (.cells (clA (fun _ => 0) 0 nc) 83) (.cells #[.int .i64 s, .int .i64 a, .int .i64 (nc : Nat), .int .i64 d, .int .i64 g, .int .i64 k, .slice none 0 0, .slice (some ⟨(w2.heap.size + 1), 0, none⟩) nc nc, .map (some w2.heap.size)] 80)).mono (Nat.le_of_lt lt2))
    generalize World.drew _ = w3 at *
    clear hkeep up s0 s1 s2 s3 s4 s5 hb2 bel2
    have hx1 : w2.heap.size < w2.heap.size + 1 := by omega
    have hx2 : w2.heap.size + 1 < w2.heap.size + 1 + 1 := by omega
    have hx3 : w2.heap.size + 1 + 1 < w3.heap.size := by omega
    clear e4
    generalize w2.heap.size + 1 + 1 = x3 at *
    generalize w2.heap.size + 1 = x2 at *
    generalize w2.heap.size = x1 at *
    clear w2
    replace hc0 := hid1 hc0.out
    have hs : Nw w3 w3 c0 x3 x2 x1 (fun _ => 0) 0 nc s a d g k := ⟨e3, e2, e1, fun i hi => absurd hi (by omega), by omega, fun i j hi => absurd hi (by omega), fun i hi => absurd hi (by omega), Below.refl _ _⟩
    have hcx : Hid (c0 < x1 ∧ x1 < x2 ∧ x2 < x3 ∧ x3 < w3.heap.size) := hid1 ⟨lt2, hx1, hx2, hx3⟩
    clear lt2 hx1 hx2 hx3 e1 e2 e3
    replace bel3 := hid1 bel3
    have t0 := hs.rd
    go_upto_region 5 with fail
    clear t0
    go_loopw [20, 4, 22, 23, 24, 25, 26, 27, 28, 29, 30, 31, 21] (fun i _ _ _ _ _ _ _ _ _ _ _ _ wr => ∃ (j : Nat) (bs : Nat → Nat), j ≤ nc ∧ i = .int .i64 j ∧ Nw w3 wr c0 x3 x2 x1 bs j nc s a d g k) (fun i _ _ _ _ _ _ _ _ _ _ _ _ _ => nc - (intOf i).toNat)
    case atStart => exact ⟨0, _, Nat.zero_le _, rfl, hs⟩
    case round =>
      clear hs
      obtain ⟨j, bs, hj, rfl, hs⟩ := hrel
      by_cases hl : j < nc
      · rename_i wr
        have hl1 : (j : Int) < (nc : Int) := by omega
        have hl0 : (0 : Int) ≤ (j : Int) := by omega
        have e3 : IntKind.i64.wrap ((j : Int) + 1) = ((j + 1 : Nat) : Int) := by rw [IntKind.wrap_i64]; omega
        have t2 := hs.rd
        have t3 := hs.cellj hl
        have nx := hs.next hl (by have := hcx.out; omega) (by have := hcx.out; omega) (by have := hcx.out; omega)
        have al := (alloc_below wr (.map #[] 0)).block x2 (lt_of_block hs.hc)
        have fzc := cells_free (al.trans hs.hc) (j * 3)
        have t4 := (World.cell?_of_block (a := ⟨x2, j * 3, none⟩) al).trans t3
        clear hs al t3
        generalize hk2 : j + 1 = j2 at *
        replace hk2 := hid1 hk2
        generalize hwA : wr.alloc (.map #[] 0) = wA at *
        replace hmm2 : (Instr.makeMap 81 none).run Try.prog wr = .ok (.map (some wr.heap.size)) wA := by rw [hmm2, hwA]
        clear hwA
        replace nx := hid1 nx
        go_upto_region 7 with fail
        go_wp2
        go_roundw
        case rel => exact ⟨j2, _, by have := hk2.out; omega, rfl, nx.out⟩
        case measure => (have := hk2.out; simp [intOf]; omega)
      · obtain rfl : j = nc := by omega
        have hl1 : ¬ (j : Int) < (j : Int) := by omega
        go_wp2
        go_ret
        exact ⟨_, rfl, _, _, bs, by rw [hc0.out]; exact bel3.out.trans hs.bel, hs.hB, hs.hc, hs.hG, hs.hm, by rw [hc0.out]; exact ⟨hs.lt.2.2, hs.lt.1, hs.lt.2.1, fun i hi => by have := hs.old i hi; have := hcx.out; omega⟩, hs.inj, fun i hi e => by have := hs.old i hi; have := hcx.out; omega⟩
end Go.Proofs.Ytecppcakgfohbab
/- New: a model of two clients, in which nothing is; and none. -/
namespace Go.Proofs.Ytecppcakgfohbab
open Go.RowKit

theorem IsHd.made_at {w : World} {b : Nat} (h : w.heap[b]? = some (.map #[] 0)) (k : Int) : IsHd w b 0 k [] := by
  obtain ⟨D, ⟨es, c, h1, h2⟩, h3⟩ := IsHd.made w k
  rw [new_obj] at h1
  simp only [Option.some.injEq, Obj.map.injEq] at h1
  obtain ⟨rfl, rfl⟩ := h1
  exact ⟨D, ⟨#[], 0, h, h2⟩, h3⟩
theorem IsGv.made_at {w : World} {b : Nat} (h : w.heap[b]? = some (.map #[] 0)) : IsGv w b 0 [] := by
  obtain ⟨D, ⟨es, c, h1, h2⟩, h3⟩ := IsGv.made w
  rw [new_obj] at h1
  simp only [Option.some.injEq, Obj.map.injEq] at h1
  obtain ⟨rfl, rfl⟩ := h1
  exact ⟨D, ⟨#[], 0, h, h2⟩, h3⟩
/-- Nothing is. -/
def sx0 (c : Nat) : Sx := ⟨[], [], List.replicate c 0, List.replicate c [], []⟩
theorem sx0_inv (c : Nat) : (sx0 c).Inv 0 where
  ok := ⟨fun x hx => (List.not_mem_nil hx).elim, fun L hL => (List.not_mem_nil hL).elim, fun L hL x hx => by
    have e : L = [] := (List.mem_replicate.1 hL).2
    rw [e] at hx; exact (List.not_mem_nil hx).elim⟩
  nd := List.nodup_nil
  hG := fun x hx => by cases hx
  g0 := fun h => by cases h
  cl := fun x hx => by cases hx
  nF := Nat.le_refl _
  nH := Nat.le_refl _
  nG := Nat.le_refl _
  row := fun L hL => by cases hL
  M2 := by show (List.replicate c ([] : List Int)).length = (List.replicate c 0).length; rw [List.length_replicate, List.length_replicate]
  com := fun L hL => by
    have e : L = [] := (List.mem_replicate.1 hL).2
    rw [e]; exact Nat.le_refl _
  bG := fun h hh => by cases hh
  bW := fun h hh => by
    have e : h = 0 := (List.mem_replicate.1 hh).2
    rw [e]; decide
theorem wkF_sx0 (c : Nat) (k : Int) : wkF (sx0 c) k = 0 := by
  unfold wkF
  show (List.replicate c 0).getD k.toNat 0 = 0
  rw [List.getD_eq_getElem?_getD, List.getElem?_replicate]
  split <;> rfl
theorem cmF_sx0 (c : Nat) (k : Int) : cmF (sx0 c) k = [] := by
  unfold cmF
  show (List.replicate c ([] : List Int)).getD k.toNat [] = []
  rw [List.getD_eq_getElem?_getD, List.getElem?_replicate]
  split <;> rfl
/-- Blocks that came since. -/
def Lb (b : Nat) (w : World) (i : Nat) : Prop := b ≤ i ∧ i < w.heap.size
theorem nw_model {w w' : World} {B : Nat} {C : Cg} (h : NwR w w' B C.c C.s C.a C.d C.g C.k) : IsM w' B (Lb w.heap.size w') C 0 (sx0 C.c) := by
  obtain ⟨Bc, bG, bs, bel, hB, hc, hG, hm, hlt, hinj, hne⟩ := h
  exact ⟨⟨.slice none 0 0, [], Bc, bG, bs, fun _ => .slice none 0 0, C.c, #[]⟩, {
    nc := by show (List.replicate C.c 0).length = C.c; rw [List.length_replicate]
    head := hB
    cl := by
      have e : (fun k : Nat => wkF (sx0 C.c) k) = fun _ => 0 := funext fun k => wkF_sx0 C.c k
      rw [e]
      have e2 : clA bs C.c C.c = clC #[] bs (fun _ => .slice none 0 0) (fun _ => 0) C.c := by
        apply Array.ext_getElem?
        intro q
        rw [clA_at, clC_at]
        by_cases hq : q < 3 * C.c
        · rw [if_pos hq, if_pos hq, if_pos (by omega : q / 3 < C.c)]; rfl
        · rw [if_neg hq, if_neg hq]; rfl
      rw [← e2]
      exact hc
    nodes := ⟨rfl, .inl ⟨rfl, rfl⟩⟩
    row := fun i K r hK => by cases hK
    dis := fun i j r r' g hr => by cases hr
    hs := fun k hk => IsHd.made_at (hm k hk) k
    gv := IsGv.made_at hG
    ms := fun k hk => by rw [cmF_sx0]; exact IsZ.nil _
    d0 := fun r hr => by cases hr
    mb := ⟨fun i j hi hj e => hinj i j hi hj e, fun k hk => hne k hk⟩
    LB := ⟨⟨hlt.1, lt_of_block hB⟩, ⟨hlt.2.1, lt_of_block hc⟩, fun k hk => ⟨hlt.2.2.2 k hk, lt_of_block (hm k hk)⟩, ⟨hlt.2.2.1, lt_of_block hG⟩⟩
    LN := fun g hg => by cases hg
    LR := fun r hr => by cases hr
    LM := fun k hk g hg => (by cases hg) }⟩
theorem new_yes (C : Cg) (hR : rightB C.s C.a (C.c : Nat) C.d C.g C.k = true) (w : World) :
    Calls Try.prog 23 #[.agg (cs C.s C.a (C.c : Nat) C.d C.g C.k)] w fun r w' => ∃ B, r = .returned (.pointer (some ⟨B, 0, none⟩)) ∧ Below w.heap.size w w' ∧ IsM w' B (Lb w.heap.size w') C 0 (sx0 C.c) :=
  (new_any C.s C.a C.d C.g C.k C.c hR w).mono fun r w' ⟨B, h1, h2⟩ => ⟨B, h1, by obtain ⟨_, _, _, b, _⟩ := h2; exact b, nw_model h2⟩

set_option maxHeartbeats 4000000 in
theorem new_no (s a c d g k : Int) (hR : rightB s a c d g k = false) (w : World) :
    Calls Try.prog 23 #[.agg (cs s a c d g k)] w fun r w' => r = .returned (.pointer none) ∧ Below w.heap.size w w' := by
  have cR := right_any s a c d g k
  rw [hR] at cR
  have bel0 := alloc_below w (.cells #[.int .i64 s, .int .i64 a, .int .i64 c, .int .i64 d, .int .i64 g, .int .i64 k] 23)
  have hb0 := new_obj w (.cells #[.int .i64 s, .int .i64 a, .int .i64 c, .int .i64 d, .int .i64 g, .int .i64 k] 23)
  go_enter Try.func23, Try.ntmps23
  go_upto_region 1 with fail
  generalize w.alloc (.cells #[.int .i64 s, .int .i64 a, .int .i64 c, .int .i64 d, .int .i64 g, .int .i64 k] 23) = w1 at *
  generalize hc0 : w.heap.size = c0 at *
  replace hc0 := hid1 hc0
  have s0 : w1.cell? ⟨c0, 0, none⟩ = some (.int .i64 s) := by simp [World.cell?, hb0]
  have s1 : w1.cell? ⟨c0, 1, none⟩ = some (.int .i64 a) := by simp [World.cell?, hb0]
  have s2 : w1.cell? ⟨c0, 2, none⟩ = some (.int .i64 c) := by simp [World.cell?, hb0]
  have s3 : w1.cell? ⟨c0, 3, none⟩ = some (.int .i64 d) := by simp [World.cell?, hb0]
  have s4 : w1.cell? ⟨c0, 4, none⟩ = some (.int .i64 g) := by simp [World.cell?, hb0]
  have s5 : w1.cell? ⟨c0, 5, none⟩ = some (.int .i64 k) := by simp [World.cell?, hb0]
  have lt0 := lt_of_block hb0
  unfold cs at cR
  go_wp2_with (go_at_call 15; with_reducible refine (cR _).mono ?_; rintro e w2 ⟨rfl, b2⟩)
  go_ret
  exact ⟨rfl, by rw [hc0.out]; exact bel0.trans (b2.mono (Nat.le_of_lt lt0))⟩
theorem new_some (s a c d g k : Int) (hR : rightB s a c d g k = true) (w : World) :
    Calls Try.prog 23 #[.agg (cs s a c d g k)] w fun r w' => ∃ B, r = .returned (.pointer (some ⟨B, 0, none⟩)) ∧ Below w.heap.size w w' := by
  have hc := (rightB_iff.1 hR).2.2.1
  obtain ⟨n, rfl⟩ : ∃ n : Nat, c = n := ⟨c.toNat, by omega⟩
  exact (new_any s a d g k n hR w).mono fun r w' ⟨B, h1, h2⟩ => ⟨B, h1, by obtain ⟨_, _, _, b, _⟩ := h2; exact b⟩
theorem does_M {w : World} {B : Nat} {L : Nat → Prop} {C : Cg} {n : Nat} {X : Sx} (h : IsM w B L C n X) (hL : ∀ i, L i → i < w.heap.size) {N : Nat} (iv : X.Inv N) (hN : N < 1000000) (hn : n < 1000000) (hCa : C.a ≤ 8) (who kd cN : Int) {cH cX cY : Nat} (hcH : cH < 18446744073709551616) (hcX : cX < 18446744073709551616) (hcY : cY < 18446744073709551616) (aE : Int) {aH : Nat} (hH : aH < 18446744073709551616) (aY : Bool) :
    Calls Try.prog 38 #[.pointer (some ⟨B, 0, none⟩), .int .i64 who, .agg #[.int .i64 kd, .int .i64 cN, .int .u64 (cH : Nat), .int .u64 (cX : Nat), .int .u64 (cY : Nat)], .agg #[.int .i64 aE, .int .u64 (aH : Nat), .bool aY]] w fun r w' => r = .returned (.bool (dsO C X who kd cN cH cX cY aE aH aY).isSome) ∧ IsM w' B (Lup L w w') C (n + 2) ((dsO C X who kd cN cH cX cY aE aH aY).getD X) ∧ Chg L w w' := by
  obtain ⟨m, h⟩ := h
  exact does_any h hL iv hN hn hCa who kd cN hcH hcX hcY aE hH aY
theorem Lb.lup {b : Nat} {w w' : World} (hb : b ≤ w.heap.size) (hs : w.heap.size ≤ w'.heap.size) : ∀ i, Lup (Lb b w) w w' i → Lb b w' i := fun i h => by
  rcases h with ⟨h1, h2⟩ | ⟨h1, h2⟩
  · exact ⟨h1, by omega⟩
  · exact ⟨by omega, h2⟩
/-- The same, where all blocks since b may be the model's. -/
theorem does_Lb {b : Nat} {w0 w : World} {B : Nat} {C : Cg} {n : Nat} {X : Sx} (h : IsM w B (Lb b w) C n X) (b0 : Below b w0 w) (hb : b ≤ w0.heap.size) {N : Nat} (iv : X.Inv N) (hN : N < 1000000) (hn : n < 1000000) (hCa : C.a ≤ 8) (who kd cN : Int) {cH cX cY : Nat} (hcH : cH < 18446744073709551616) (hcX : cX < 18446744073709551616) (hcY : cY < 18446744073709551616) (aE : Int) {aH : Nat} (hH : aH < 18446744073709551616) (aY : Bool) :
    Calls Try.prog 38 #[.pointer (some ⟨B, 0, none⟩), .int .i64 who, .agg #[.int .i64 kd, .int .i64 cN, .int .u64 (cH : Nat), .int .u64 (cX : Nat), .int .u64 (cY : Nat)], .agg #[.int .i64 aE, .int .u64 (aH : Nat), .bool aY]] w fun r w' => r = .returned (.bool (dsO C X who kd cN cH cX cY aE aH aY).isSome) ∧ IsM w' B (Lb b w') C (n + 2) ((dsO C X who kd cN cH cX cY aE aH aY).getD X) ∧ Below b w0 w' :=
  (does_M h (fun _ hi => hi.2) iv hN hn hCa who kd cN hcH hcX hcY aE hH aY).mono fun _ _ ⟨h1, h2, h3⟩ =>
    ⟨h1, h2.up (Lb.lup (Nat.le_trans hb b0.size) h3.size), h3.below b0 (fun _ hi => hi.1) hb⟩
end Go.Proofs.Ytecppcakgfohbab
